import Derived.Test.YtplcicbpkbamnaaDoorX26
import Derived.Test.YtplcicbpkbamnaaDoorX27
import Derived.Test.YtplcicbpkbamnaaDoorX25
import Derived.BigQuiet
/- LobbyBounds' walk -/
namespace Go.Proofs.YtplcicbpkbamnaaDoor.Lo
open Go Go.RowKit Go.Maps

theorem joi_cases (X : Lb) (fr n s nm : ByteArray) (t : Nat) : (joiC X nm = 0 ∧ X.S.length < X.most ∧ ∃ a, joiS X fr n s nm t = some (joiE X fr n s nm t a)) ∨ (joiC X nm ≠ 0 ∧ joiS X fr n s nm t = none) := by
  unfold joiC joiS
  cases fdI X.A nm with
  | none => exact .inr ⟨by simp, rfl⟩
  | some a =>
    simp only
    split
    · exact .inr ⟨by decide, rfl⟩
    · split
      · exact .inr ⟨by decide, rfl⟩
      · exact .inl ⟨rfl, by omega, a, rfl⟩
theorem b42 : Tryd.prog.built 42 [] = some z7.toArray := by kernel_rfl
theorem b42e (f : Nat × Operand → Nat × Value) : Tryd.prog.built 42 ((#[] : Array (Nat × Operand)).map f).toList = some z7.toArray := by
  rw [show ((#[] : Array (Nat × Operand)).map f).toList = [] by simp]; exact b42
theorem eq_z (w : World) : (Op.equalIn 10000 42 (.agg #[.int .u64 0, .int .i64 0, .string ⟨#[]⟩, .string ⟨#[]⟩, .int .u64 0, .int .u64 0, .int .u64 0]) (.agg #[.int .u64 0, .int .i64 0, .string ⟨#[]⟩, .string ⟨#[]⟩, .int .u64 0, .int .u64 0, .int .u64 0])).run Tryd.prog w = .ok true w :=
  eq_same ⟨0, 0, ⟨#[]⟩, ⟨#[]⟩, 0, 0, 0, 0, [], 0, 0, 0⟩ w
set_option maxRecDepth 100000 in
set_option maxHeartbeats 64000000 in
theorem bounds_c (w : World) (c : Cf) (v sv : Value) (P : List Pr) (L : List Opr) (hv : InR w v P) (hn : Na.Kc w) (hk : Kc w) (hs : SrO w sv L) :
    Calls Tryd.prog 7 #[.agg (cfv c v), sv] w fun e w' => e = .returned (.bool true) ∧ w.grownBy w' none := by
  obtain ⟨du, hdu, hdr⟩ := under24
  obtain ⟨du5, hdu5, hdr5⟩ := under50
  obtain ⟨sa, scap, hsv, _⟩ := hs.o
  obtain ⟨nL, hnL⟩ : ∃ n, L.length = n := ⟨_, rfl⟩
  rw [hnL] at hsv
  subst hsv
  have S2 := (Sep.nil w).newBox (cfv c v) 24
  obtain ⟨W1, hW1⟩ : ∃ W1, w.alloc (.cells (cfv c v) 24) = W1 := ⟨_, rfl⟩
  obtain ⟨cb, hcb⟩ : ∃ cb, w.heap.size = cb := ⟨_, rfl⟩
  rw [hW1, hcb] at S2
  have HKK : Keep (∀ W l, Sep w W l → Na.Kc W ∧ Kc W ∧ InR W v P) := ⟨fun W l h => ⟨hn.kept h.g, hk.kept h.g (by simp), hv.kept h.g⟩⟩
  have HNK := Keep.mk (And.intro hn (And.intro hk (And.intro hs hnL)))
  have hA := alive_c W1 (HKK.out _ _ S2).1 (HKK.out _ _ S2).2.1
  have hN : ∀ W l, Sep w W l → Calls Tryd.prog 9 #[.agg (cfv c v)] W (NwR W (newL c P)) := fun W l h => new_c W c v P (HKK.out _ _ h).2.2 (HKK.out _ _ h).1
  have HCL : Keep ((cfv c v).toList.length = 13 ∧ (cfv c v).toList[0]? = some (iv c.ses)) := ⟨rfl, rfl⟩
  have hcl : cfv c v = (cfv c v).toList.toArray := rfl
  rw [hcl] at hN hW1
  rw [hcl]
  have HS2 : Keep (Sep w W1 [boxA cb (cfv c v).toList 24]) := ⟨S2⟩
  generalize (cfv c v).toList = cl at hN HCL hW1 HS2 ⊢
  have HN := Keep.mk hN
  clear S2 hn hk hs hv hcl hN
  go_enter Tryd.func7, Tryd.ntmps7
  go_wp2_with fail
  refine hA.mono ?_
  rintro e w3 ⟨rfl, g3⟩
  have S3 := HS2.out.grown g3
  have hN1 := HN.out _ _ S3
  have RNG := Keep.mk (S3.boxGet k0m).range
  have HS3 := Keep.mk S3
  clear hA g3 HS2 hW1 hcb S3 HN
  cases hX : newL c P with
  | none =>
    rw [hX] at hN1
    go_wp2_with (first
      | (show wpList _ _ _ ({ dst := _, op := Op.load 24 _, type := _, pos := _, after := _, guard := _ } :: _) _ _
         refine wpList_load_mid rfl 24 _ rfl _ _ rfl _ _ RNG.out hdu hdr (by rw [HCL.out.1]; exact info24) ?_))
    refine hN1.mono ?_
    rintro e w7 ⟨rfl, g7⟩
    have HG := Keep.mk (HS3.out.g.trans g7)
    clear hN1 g7 HS3
    go_wp2_with fail
    go_ret
    exact ⟨rfl, HG.out⟩
  | some X =>
    rw [hX] at hN1
    obtain ⟨ok, up, hXS, hnx⟩ := new_ok hX
    obtain ⟨wl, hmost⟩ := Wl.new hX
    have HX0 : Keep (LbOk X ∧ Up X ∧ Wl X ∧ X.next ≤ 1 ∧ (X.most : Int) = c.ses) := ⟨ok, up, wl, by omega, hmost⟩
    clear ok up hXS hnx wl hmost hX
    go_wp2_with (first
      | (show wpList _ _ _ ({ dst := _, op := Op.load 24 _, type := _, pos := _, after := _, guard := _ } :: _) _ _
         refine wpList_load_mid rfl 24 _ rfl _ _ rfl _ _ RNG.out hdu hdr (by rw [HCL.out.1]; exact info24) ?_))
    refine hN1.mono ?_
    rintro ex w7 ⟨la, rfl, S7'⟩
    have HS7 : Keep (Sep w w7 [lobA la X, boxA cb cl 24]) := ⟨HS3.out.ovr S7'⟩
    clear hN1 S7' HS3 RNG
    go_wp2_with fail
    go_loopw [7] (fun u wr => ∃ (i : Nat) (X : Lb), i ≤ nL ∧ i ≤ 200 ∧ u = iv i ∧ Keep (Sep w wr [lobA la X, boxA cb cl 24]) ∧ Keep (LbOk X ∧ Up X ∧ Wl X ∧ X.next ≤ i + 1 ∧ (X.most : Int) = c.ses)) (fun u _ => (200 - intOf u).toNat)
    case atStart => exact ⟨0, X, by omega, by omega, rfl, HS7, HX0⟩
    case round =>
      clear HS7 HX0
      clear X
      obtain ⟨i, X, hi, h200, rfl, hS, hX⟩ := hrel
      by_cases hlt : i < nL ∧ i < 200
      · obtain ⟨hl1, hl2⟩ := hlt
        have hSR := HNK.out.2.2.1.kept hS.out.g
        obtain ⟨a', cap', e, hq⟩ := hSR.o
        rw [HNK.out.2.2.2] at e hq
        injection e with e1' e2' e3'
        obtain ⟨g, og, hg, hq⟩ := hq (by omega)
        rw [← e1'] at hg
        subst hg
        obtain ⟨x, hx⟩ : ∃ x, L[i]? = some x := ⟨_, List.getElem?_eq_getElem (by rw [HNK.out.2.2.2]; exact hl1)⟩
        have HRG := Keep.mk (hq i x hx)
        have HXO := Keep.mk (hSR.s x (List.mem_of_getElem? hx))
        have hi0 : (0 : Int) ≤ (i : Int) := by omega
        have hi1 : (i : Int) < (nL : Nat) := by omega
        have hi2 : (i : Int) < 200 := by omega
        have hti : ((i : Nat) : Int).toNat = i := by omega
        have hwi : IntKind.i64.wrap ((i : Int) + 1) = ((i + 1 : Nat) : Int) := by rw [wi _ (by omega) (by omega)]; omega
        have HI : Keep (i < nL ∧ i < 200) := ⟨hl1, hl2⟩
        have HXN : Keep (X.next < 1000000) := ⟨by have := hX.out.2.2.2.1; omega⟩
        have HC0 : Keep (∀ Y : Lb, (Y.most : Int) = c.ses → cl[0]? = some (iv (Y.most : Nat))) := ⟨fun Y h => by rw [HCL.out.2, h]⟩
        clear hSR hq e1' e2' e3' hx hl1 hl2 hi h200
        go_wp2_with (first
          | (show wpList _ _ _ ({ dst := _, op := Op.load 50 _, type := _, pos := _, after := _, guard := _ } :: _) _ _
             refine wpList_load_mid rfl 50 _ rfl _ _ rfl _ _ HRG.out hdu5 hdr5 (by exact info50) ?_)
          | (show wpList _ _ _ ({ dst := _, op := Op.store 50 _ _, type := _, pos := _, after := _, guard := _ } :: _) _ _
             refine store_new _ (opv x) 50 rfl rfl rfl rfl rfl (by exact info50) (opv_one1 x) ?_))
        intro w2 hS2 g2
        have S2 := hS2 w _ hS.out
        generalize wr.heap.size = ob at S2 ⊢
        have S2 : Sep w w2 [lobA la X, boxA ob (opv x) 50, boxA cb cl 24] := S2.swap
        have hNx := next_c w w2 _ la X S2
        have HS2 := Keep.mk S2
        clear hS2 g2 S2 hS HRG
        go_wp2_with fail
        refine hNx.mono ?_
        rintro ex w3 ⟨rfl, hw3⟩
        subst hw3
        have hLv := lives_c w w3 _ la X HS2.out hX.out.1 hX.out.2.1
        obtain ⟨n, hn⟩ : ∃ n, X.S.length = n := ⟨_, rfl⟩
        have HNS := Keep.mk hn
        have HLE : Keep (n ≤ X.most ∧ X.most ≤ 32) := ⟨by rw [← hn]; exact ⟨hX.out.1.le, hX.out.1.m2⟩⟩
        rw [hn] at hLv
        clear hNx HS2 hn
        go_wp2_with fail
        refine hLv.mono ?_
        rintro ex w4 ⟨v1, rfl, S4⟩
        obtain ⟨a, cap, hv1⟩ := own_slice (S4.rowGet k0m)
        subst hv1
        have S4 : Sep w w4 (rowV 42 7 (.slice a n cap) n (X.S.flatMap lvc) :: lobA la X :: boxA ob (opv x) 50 :: boxA cb cl 24 :: []) := S4
        have d0 : w4.cell? ⟨ob, 0, none⟩ = some (iv x.kd) := (S4.boxGet k2m).cellv 0 _ rfl
        have HS4 := Keep.mk S4
        clear hLv S4
        by_cases e1 : x.kd = 1
        · rw [e1] at d0
          have d2 : w4.cell? ⟨ob, 2, none⟩ = some (.string x.a) := (HS4.out.boxGet k2m).cellv 2 _ rfl
          have d3 : w4.cell? ⟨ob, 3, none⟩ = some (.string x.b) := (HS4.out.boxGet k2m).cellv 3 _ rfl
          have d4 : w4.cell? ⟨ob, 4, none⟩ = some (.string x.c) := (HS4.out.boxGet k2m).cellv 4 _ rfl
          have d5 : w4.cell? ⟨ob, 5, none⟩ = some (.string x.nm) := (HS4.out.boxGet k2m).cellv 5 _ rfl
          have d8 : w4.cell? ⟨ob, 8, none⟩ = some (uv x.tick) := (HS4.out.boxGet k2m).cellv 8 _ rfl
          have hJ := join_c w w4 _ la X x.a x.b x.c x.nm x.tick HS4.out.swap hX.out.1 (HKK.out _ _ HS4.out).1 HNK.out.2.1 HXO.out.nm HXO.out.b HXO.out.c HXO.out.a HXN.out
          have HX' : Keep (LbOk (joiX X x.a x.b x.c x.nm x.tick) ∧ Up (joiX X x.a x.b x.c x.nm x.tick) ∧ Wl (joiX X x.a x.b x.c x.nm x.tick) ∧ (joiX X x.a x.b x.c x.nm x.tick).next ≤ i + 1 + 1 ∧ ((joiX X x.a x.b x.c x.nm x.tick).most : Int) = c.ses) := ⟨hX.out.1.join HXN.out HXO.out.tick HXO.out.nm HXO.out.a (fun a z => fdI_lt z), hX.out.2.1.join hX.out.1 .., hX.out.2.2.1.join hX.out.1 .., by
            have h1 := hX.out.2.2.2.1
            unfold joiX
            cases joiS X x.a x.b x.c x.nm x.tick with
            | none => show X.next ≤ _; omega
            | some s => show X.next + 1 ≤ _; omega, by rw [joi_most]; exact hX.out.2.2.2.2⟩
          have HLV : Keep (∀ W l, Sep w W (lobA la X :: l) → Calls Tryd.prog 27 #[pt la] W fun e W' => ∃ v, e = .returned v ∧ Sep w W' (rowV 42 7 v X.S.length (X.S.flatMap lvc) :: lobA la X :: l)) := ⟨fun W l h => lives_c w W l la X h hX.out.1 hX.out.2.1⟩
          rcases joi_cases X x.a x.b x.c x.nm x.tick with ⟨jc, hl, ac, js⟩ | ⟨jc, js⟩
          · obtain ⟨j, hj, hjm, hjf, hja⟩ := frS_at X hl hX.out.1.m2
            have e2 : joiX X x.a x.b x.c x.nm x.tick = { X with next := X.next + 1, S := X.S ++ [joiE X x.a x.b x.c x.nm x.tick ac] } := by unfold joiX; rw [js]
            have HNN : Keep ((joiX X x.a x.b x.c x.nm x.tick).next = X.next + 1) := ⟨by rw [e2]⟩
            have HLC : Keep (lvc (joiE X x.a x.b x.c x.nm x.tick ac) = [uv X.next, iv (j : Nat), .string x.nm, .string x.a, uv x.tick, .int .u64 0, .int .u64 0]) := ⟨by
              unfold lvc joiE; rw [hj]; rfl⟩
            have HJ := Keep.mk (And.intro hjf (And.intro hja (show j ≤ 64 by have := hX.out.1.m2; omega)))
            rw [js, jc] at hJ
            simp only [Option.map_some, Option.getD_some] at hJ
            generalize joiX X x.a x.b x.c x.nm x.tick = X' at hJ HX' HNN
            have H1 := Keep.mk (lvc_one (joiE X x.a x.b x.c x.nm x.tick ac))
            generalize lvc (joiE X x.a x.b x.c x.nm x.tick ac) = yl at hJ HLC H1
            have HLN : Keep (yl.length = 7) := ⟨by rw [HLC.out]; rfl⟩
            have HWN : Keep (IntKind.u64.wrap ((X.next : Int) + 1) = ((X.next + 1 : Nat) : Int)) := ⟨by have := HXN.out; rw [Wi.wu _ (by omega) (by omega)]; omega⟩
            clear HS4 jc hl js hj hjm hjf hja e2 HLV
            go_wp2_with fail
            refine hJ.mono ?_
            rintro ex w5 ⟨rfl, S5⟩
            have HS5 := Keep.mk S5
            clear hJ S5
            go_wp2_with (first
              | (show wpList _ _ _ ({ dst := _, op := Op.store 42 _ _, type := _, pos := _, after := _, guard := _ } :: _) _ _
                 refine store_new _ (yl) 42 rfl rfl rfl rfl (by rw [HLN.out]; rfl) (by rw [HLN.out]; exact info42) (H1.out) ?_))
            intro w6 hS6 g6
            have S6 := hS6 w _ HS5.out
            generalize w5.heap.size = b11 at S6 ⊢
            have HY : Keep (∀ W, Sep w W (boxA b11 yl 42 :: lobA la X' :: rowV 42 7 (.slice a n cap) n (X.S.flatMap lvc) :: boxA ob (opv x) 50 :: boxA cb cl 24 :: []) → W.cell? ⟨b11, 0, none⟩ = some (uv X.next) ∧ W.cell? ⟨b11, 1, none⟩ = some (iv (j : Nat)) ∧ W.cell? ⟨b11, 2, none⟩ = some (.string x.nm) ∧ W.cell? ⟨b11, 3, none⟩ = some (.string x.a) ∧ W.cell? ⟨b11, 4, none⟩ = some (uv x.tick) ∧ W.cell? ⟨b11, 5, none⟩ = some (.int .u64 0) ∧ W.cell? ⟨b11, 6, none⟩ = some (.int .u64 0)) := ⟨fun W h => by
              have q := h.boxGet k0m
              rw [HLC.out] at q
              exact ⟨q.cellv 0 _ rfl, q.cellv 1 _ rfl, q.cellv 2 _ rfl, q.cellv 3 _ rfl, q.cellv 4 _ rfl, q.cellv 5 _ rfl, q.cellv 6 _ rfl⟩⟩
            have HOB : Keep (∀ W, Sep w W (boxA b11 yl 42 :: lobA la X' :: rowV 42 7 (.slice a n cap) n (X.S.flatMap lvc) :: boxA ob (opv x) 50 :: boxA cb cl 24 :: []) → W.cell? ⟨ob, 2, none⟩ = some (.string x.a) ∧ W.cell? ⟨ob, 5, none⟩ = some (.string x.nm) ∧ W.cell? ⟨ob, 8, none⟩ = some (uv x.tick)) := ⟨fun W h => ⟨(h.boxGet k3m).cellv 2 _ rfl, (h.boxGet k3m).cellv 5 _ rfl, (h.boxGet k3m).cellv 8 _ rfl⟩⟩
            have HNX : Keep (∀ W, Sep w W (boxA b11 yl 42 :: lobA la X' :: rowV 42 7 (.slice a n cap) n (X.S.flatMap lvc) :: boxA ob (opv x) 50 :: boxA cb cl 24 :: []) → Calls Tryd.prog 26 #[pt la] W fun e W' => e = .returned (uv (X.next + 1)) ∧ W' = W) := ⟨fun W h => by
              have q := next_c w W _ la X' h.swap
              rw [HNN.out] at q
              exact q⟩
            have HFR : Keep (∀ W, Sep w W (boxA b11 yl 42 :: lobA la X' :: rowV 42 7 (.slice a n cap) n (X.S.flatMap lvc) :: boxA ob (opv x) 50 :: boxA cb cl 24 :: []) → Calls Tryd.prog 28 #[.slice a n cap] W fun e W' => e = .returned (iv (j : Nat)) ∧ W' = W) := ⟨fun W h => fre_c W (.slice a n cap) X.S j (lvr_n HNS.out (h.rowGet k2m)) (by have := HLE.out; have := HNS.out; omega) HJ.out.2.2 HJ.out.1 HJ.out.2.1⟩
            have HL6 : Keep (Sep w w6.drew (boxA b11 yl 42 :: lobA la X' :: rowV 42 7 (.slice a n cap) n (X.S.flatMap lvc) :: boxA ob (opv x) 50 :: boxA cb cl 24 :: [])) := ⟨S6.grown (gr_drew w6 none)⟩
            clear hS6 g6 S6 HS5 d0 d2 d3 d4 d5 d8
            go_wp2_with fail
            refine wp_region_held_drew (S := fun w' => Sep w w' (boxA b11 yl 42 :: lobA la X' :: rowV 42 7 (.slice a n cap) n (X.S.flatMap lvc) :: boxA ob (opv x) 50 :: boxA cb cl 24 :: [])) (by kernel_rfl) HL6.out (fun hHeld => ?_)
            clear HL6
            generalize w6.drew = wA0 at hHeld ⊢
            refine wpAnyH_take (i := 0) (oi := { dst := some 67, op := Op.move (Operand.tmp 12), type := 29, pos := "outright.go:117", after := #[], guard := none }) (v := ?_) rfl (by kernel_rfl) (by kernel_rfl) (by kernel_rfl) (fun _ _ _ h => h) (Or.inl ⟨by rfl, ?_⟩) (by assumption) ?_
            rotate_left
            · (intro w hSw; go_simp; first | done | (with_reducible rfl))
            simp only [Act.put, List.setIfInBounds_toArray, List.set_cons_zero, List.set_cons_succ]
            refine wpAnyH_take (i := 1) (oi := { dst := some 68, op := Op.binOp BinOp.eql 3 (Operand.tmp 67) (Operand.const (Value.int IntKind.i64 0)) 3, type := 4, pos := "outright.go:117", after := #[{ on := 0, ground := Ground.data }], guard := none }) (v := .bool true) rfl (by kernel_rfl) (by kernel_rfl) (by kernel_rfl) (fun _ _ _ h => h) (Or.inl ⟨by rfl, ?_⟩) (by assumption) ?_
            · (intro w hSw; go_simp; first | done | (simp; done) | trace_state)
            simp only [Act.put, List.setIfInBounds_toArray, List.set_cons_zero, List.set_cons_succ]
            refine wpAnyH_take (i := 2) (oi := { dst := some 69, op := Op.move (Operand.tmp 68), type := 4, pos := "outright.go:117", after := #[{ on := 1, ground := Ground.data }], guard := none }) (v := ?_) rfl (by kernel_rfl) (by kernel_rfl) (by kernel_rfl) (fun _ _ _ h => h) (Or.inl ⟨by rfl, ?_⟩) (by assumption) ?_
            rotate_left
            · (intro w hSw; go_simp; first | done | (with_reducible rfl))
            simp only [Act.put, List.setIfInBounds_toArray, List.set_cons_zero, List.set_cons_succ]
            refine wpAnyH_take (i := 3) (oi := { dst := some 70, op := Op.fieldAddr 42 (Operand.tmp 11) 0, type := 0, pos := "outright.go:117", after := #[{ on := 2, ground := Ground.guard }], guard := some (2, true) }) (v := ?_) rfl (by kernel_rfl) (by kernel_rfl) (by kernel_rfl) (fun _ _ _ h => h) (Or.inl ⟨by rfl, ?_⟩) (by assumption) ?_
            rotate_left
            · (intro w hSw; go_simp; first | done | (with_reducible rfl))
            simp only [Act.put, List.setIfInBounds_toArray, List.set_cons_zero, List.set_cons_succ]
            refine wpAnyH_take (i := 4) (oi := { dst := some 71, op := Op.load 40 (Operand.tmp 70), type := 40, pos := "outright.go:117", after := #[{ on := 3, ground := Ground.data }, { on := 2, ground := Ground.guard }], guard := some (2, true) }) (v := ?_) rfl (by kernel_rfl) (by kernel_rfl) (by kernel_rfl) (fun _ _ _ h => h) (Or.inl ⟨by rfl, ?_⟩) (by assumption) ?_
            rotate_left
            · (intro w hSw; obtain ⟨y0, y1, y2, y3, y4, y5, y6⟩ := HY.out _ hSw; go_simp; first | done | (with_reducible rfl))
            simp only [Act.put, List.setIfInBounds_toArray, List.set_cons_zero, List.set_cons_succ]
            refine wpAnyH_take (i := 5) (oi := { dst := some 72, op := Op.move (Operand.tmp 9), type := 40, pos := "outright.go:117", after := #[{ on := 2, ground := Ground.guard }], guard := some (2, true) }) (v := ?_) rfl (by kernel_rfl) (by kernel_rfl) (by kernel_rfl) (fun _ _ _ h => h) (Or.inl ⟨by rfl, ?_⟩) (by assumption) ?_
            rotate_left
            · (intro w hSw; go_simp; first | done | (with_reducible rfl))
            simp only [Act.put, List.setIfInBounds_toArray, List.set_cons_zero, List.set_cons_succ]
            refine wpAnyH_take (i := 6) (oi := { dst := some 73, op := Op.binOp BinOp.neq 40 (Operand.tmp 71) (Operand.tmp 72) 40, type := 4, pos := "outright.go:117", after := #[{ on := 4, ground := Ground.data }, { on := 5, ground := Ground.data }, { on := 2, ground := Ground.guard }], guard := some (2, true) }) (v := .bool false) rfl (by kernel_rfl) (by kernel_rfl) (by kernel_rfl) (fun _ _ _ h => h) (Or.inl ⟨by rfl, ?_⟩) (by assumption) ?_
            · (intro w hSw; go_simp; first | done | (simp; done) | trace_state)
            simp only [Act.put, List.setIfInBounds_toArray, List.set_cons_zero, List.set_cons_succ]
            refine wpAnyH_take (i := 7) (oi := { dst := some 74, op := Op.move (Operand.tmp 73), type := 4, pos := "outright.go:117", after := #[{ on := 6, ground := Ground.data }, { on := 2, ground := Ground.chain }, { on := 2, ground := Ground.guard }], guard := some (2, true) }) (v := ?_) rfl (by kernel_rfl) (by kernel_rfl) (by kernel_rfl) (fun _ _ _ h => h) (Or.inl ⟨by rfl, ?_⟩) (by assumption) ?_
            rotate_left
            · (intro w hSw; go_simp; first | done | (with_reducible rfl))
            simp only [Act.put, List.setIfInBounds_toArray, List.set_cons_zero, List.set_cons_succ]
            refine wpAnyH_take (i := 8) (oi := { dst := some 75, op := Op.move (Operand.tmp 5), type := 28, pos := "outright.go:117", after := #[{ on := 7, ground := Ground.guard }], guard := some (7, false) }) (v := ?_) rfl (by kernel_rfl) (by kernel_rfl) (by kernel_rfl) (fun _ _ _ h => h) (Or.inl ⟨by rfl, ?_⟩) (by assumption) ?_
            rotate_left
            · (intro w hSw; go_simp; first | done | (with_reducible rfl))
            simp only [Act.put, List.setIfInBounds_toArray, List.set_cons_zero, List.set_cons_succ]
            refine wpAnyH_take (i := 10) (oi := { dst := some 77, op := Op.move (Operand.tmp 9), type := 40, pos := "outright.go:117", after := #[{ on := 7, ground := Ground.guard }], guard := some (7, false) }) (v := ?_) rfl (by kernel_rfl) (by kernel_rfl) (by kernel_rfl) (fun _ _ _ h => h) (Or.inl ⟨by rfl, ?_⟩) (by assumption) ?_
            rotate_left
            · (intro w hSw; go_simp; first | done | (with_reducible rfl))
            simp only [Act.put, List.setIfInBounds_toArray, List.set_cons_zero, List.set_cons_succ]
            refine wpAnyH_take (i := 11) (oi := { dst := some 78, op := Op.binOp BinOp.add 40 (Operand.tmp 77) (Operand.const (Value.int IntKind.u64 1)) 40, type := 40, pos := "outright.go:117", after := #[{ on := 10, ground := Ground.data }, { on := 7, ground := Ground.guard }], guard := some (7, false) }) (v := ?_) rfl (by kernel_rfl) (by kernel_rfl) (by kernel_rfl) (fun _ _ _ h => h) (Or.inl ⟨by rfl, ?_⟩) (by assumption) ?_
            rotate_left
            · (intro w hSw; have f := HWN.out; go_simp; first | done | (with_reducible rfl))
            simp only [Act.put, List.setIfInBounds_toArray, List.set_cons_zero, List.set_cons_succ]
            refine wpAnyH_ready (rs := [9]) (by kernel_rfl) (by simp) ?_
            refine AllReadyH.cons (o := { dst := some 76, op := Op.call { callee := Callee.value (Operand.func 26), args := #[Operand.tmp 75], argTypes := #[28] }, type := 40, pos := "outright.go:117", after := #[{ on := 8, ground := Ground.data }, { on := 7, ground := Ground.chain }, { on := 7, ground := Ground.guard }], guard := some (7, false) }) rfl (fun K hK => ?_) AllReadyH.nil
            go_simp
            refine (HNX.out _ hHeld).mono ?_
            rintro e wA ⟨rfl, hwA⟩
            subst hwA
            refine hK.out _ _ hHeld (fun hHeld => ?_)
            clear hK K
            refine wpAnyH_take (i := 12) (oi := { dst := some 79, op := Op.binOp BinOp.neq 40 (Operand.tmp 76) (Operand.tmp 78) 40, type := 4, pos := "outright.go:117", after := #[{ on := 9, ground := Ground.data }, { on := 11, ground := Ground.data }, { on := 7, ground := Ground.guard }], guard := some (7, false) }) (v := .bool false) rfl (by kernel_rfl) (by kernel_rfl) (by kernel_rfl) (fun _ _ _ h => h) (Or.inl ⟨by rfl, ?_⟩) (by assumption) ?_
            · (intro w hSw; have f := HWN.out; go_simp; first | done | (simp; done) | trace_state)
            simp only [Act.put, List.setIfInBounds_toArray, List.set_cons_zero, List.set_cons_succ]
            refine wpAnyH_take (i := 13) (oi := { dst := some 80, op := Op.pick (Operand.tmp 74) (Operand.const (Value.bool true)) (Operand.tmp 79), type := 4, pos := "outright.go:117", after := #[{ on := 7, ground := Ground.data }, { on := 12, ground := Ground.data }, { on := 2, ground := Ground.guard }], guard := some (2, true) }) (v := .bool false) rfl (by kernel_rfl) (by kernel_rfl) (by kernel_rfl) (fun _ _ _ h => h) (Or.inl ⟨by rfl, ?_⟩) (by assumption) ?_
            · (intro w hSw; go_simp; first | done | (simp; done) | trace_state)
            simp only [Act.put, List.setIfInBounds_toArray, List.set_cons_zero, List.set_cons_succ]
            refine wpAnyH_take (i := 14) (oi := { dst := some 81, op := Op.move (Operand.tmp 80), type := 4, pos := "outright.go:117", after := #[{ on := 13, ground := Ground.data }, { on := 9, ground := Ground.chain }, { on := 2, ground := Ground.guard }], guard := some (2, true) }) (v := ?_) rfl (by kernel_rfl) (by kernel_rfl) (by kernel_rfl) (fun _ _ _ h => h) (Or.inl ⟨by rfl, ?_⟩) (by assumption) ?_
            rotate_left
            · (intro w hSw; go_simp; first | done | (with_reducible rfl))
            simp only [Act.put, List.setIfInBounds_toArray, List.set_cons_zero, List.set_cons_succ]
            refine wpAnyH_take (i := 15) (oi := { dst := some 82, op := Op.fieldAddr 42 (Operand.tmp 11) 1, type := 0, pos := "outright.go:117", after := #[{ on := 14, ground := Ground.guard }], guard := some (14, false) }) (v := ?_) rfl (by kernel_rfl) (by kernel_rfl) (by kernel_rfl) (fun _ _ _ h => h) (Or.inl ⟨by rfl, ?_⟩) (by assumption) ?_
            rotate_left
            · (intro w hSw; go_simp; first | done | (with_reducible rfl))
            simp only [Act.put, List.setIfInBounds_toArray, List.set_cons_zero, List.set_cons_succ]
            refine wpAnyH_take (i := 16) (oi := { dst := some 83, op := Op.load 3 (Operand.tmp 82), type := 3, pos := "outright.go:117", after := #[{ on := 15, ground := Ground.data }, { on := 14, ground := Ground.guard }], guard := some (14, false) }) (v := ?_) rfl (by kernel_rfl) (by kernel_rfl) (by kernel_rfl) (fun _ _ _ h => h) (Or.inl ⟨by rfl, ?_⟩) (by assumption) ?_
            rotate_left
            · (intro w hSw; obtain ⟨y0, y1, y2, y3, y4, y5, y6⟩ := HY.out _ hSw; go_simp; first | done | (with_reducible rfl))
            simp only [Act.put, List.setIfInBounds_toArray, List.set_cons_zero, List.set_cons_succ]
            refine wpAnyH_take (i := 17) (oi := { dst := some 84, op := Op.move (Operand.tmp 10), type := 63, pos := "outright.go:117", after := #[{ on := 14, ground := Ground.guard }], guard := some (14, false) }) (v := ?_) rfl (by kernel_rfl) (by kernel_rfl) (by kernel_rfl) (fun _ _ _ h => h) (Or.inl ⟨by rfl, ?_⟩) (by assumption) ?_
            rotate_left
            · (intro w hSw; go_simp; first | done | (with_reducible rfl))
            simp only [Act.put, List.setIfInBounds_toArray, List.set_cons_zero, List.set_cons_succ]
            refine wpAnyH_ready (rs := [18]) (by kernel_rfl) (by simp) ?_
            refine AllReadyH.cons (o := { dst := some 85, op := Op.call { callee := Callee.value (Operand.func 28), args := #[Operand.tmp 84], argTypes := #[63] }, type := 3, pos := "outright.go:117", after := #[{ on := 17, ground := Ground.data }, { on := 14, ground := Ground.chain }, { on := 14, ground := Ground.guard }], guard := some (14, false) }) rfl (fun K hK => ?_) AllReadyH.nil
            go_simp
            refine (HFR.out _ hHeld).mono ?_
            rintro e wA ⟨rfl, hwA⟩
            subst hwA
            refine hK.out _ _ hHeld (fun hHeld => ?_)
            clear hK K
            refine wpAnyH_take (i := 19) (oi := { dst := some 86, op := Op.binOp BinOp.neq 3 (Operand.tmp 83) (Operand.tmp 85) 3, type := 4, pos := "outright.go:117", after := #[{ on := 16, ground := Ground.data }, { on := 18, ground := Ground.data }, { on := 14, ground := Ground.guard }], guard := some (14, false) }) (v := .bool false) rfl (by kernel_rfl) (by kernel_rfl) (by kernel_rfl) (fun _ _ _ h => h) (Or.inl ⟨by rfl, ?_⟩) (by assumption) ?_
            · (intro w hSw; go_simp; first | done | (simp; done) | trace_state)
            simp only [Act.put, List.setIfInBounds_toArray, List.set_cons_zero, List.set_cons_succ]
            refine wpAnyH_take (i := 20) (oi := { dst := some 87, op := Op.pick (Operand.tmp 81) (Operand.const (Value.bool true)) (Operand.tmp 86), type := 4, pos := "outright.go:117", after := #[{ on := 14, ground := Ground.data }, { on := 19, ground := Ground.data }, { on := 2, ground := Ground.guard }], guard := some (2, true) }) (v := .bool false) rfl (by kernel_rfl) (by kernel_rfl) (by kernel_rfl) (fun _ _ _ h => h) (Or.inl ⟨by rfl, ?_⟩) (by assumption) ?_
            · (intro w hSw; go_simp; first | done | (simp; done) | trace_state)
            simp only [Act.put, List.setIfInBounds_toArray, List.set_cons_zero, List.set_cons_succ]
            refine wpAnyH_take (i := 21) (oi := { dst := some 88, op := Op.move (Operand.tmp 87), type := 4, pos := "outright.go:117", after := #[{ on := 20, ground := Ground.data }, { on := 18, ground := Ground.chain }, { on := 2, ground := Ground.guard }], guard := some (2, true) }) (v := ?_) rfl (by kernel_rfl) (by kernel_rfl) (by kernel_rfl) (fun _ _ _ h => h) (Or.inl ⟨by rfl, ?_⟩) (by assumption) ?_
            rotate_left
            · (intro w hSw; go_simp; first | done | (with_reducible rfl))
            simp only [Act.put, List.setIfInBounds_toArray, List.set_cons_zero, List.set_cons_succ]
            refine wpAnyH_take (i := 22) (oi := { dst := some 89, op := Op.fieldAddr 42 (Operand.tmp 11) 2, type := 0, pos := "outright.go:117", after := #[{ on := 21, ground := Ground.guard }], guard := some (21, false) }) (v := ?_) rfl (by kernel_rfl) (by kernel_rfl) (by kernel_rfl) (fun _ _ _ h => h) (Or.inl ⟨by rfl, ?_⟩) (by assumption) ?_
            rotate_left
            · (intro w hSw; go_simp; first | done | (with_reducible rfl))
            simp only [Act.put, List.setIfInBounds_toArray, List.set_cons_zero, List.set_cons_succ]
            refine wpAnyH_take (i := 23) (oi := { dst := some 90, op := Op.load 9 (Operand.tmp 89), type := 9, pos := "outright.go:117", after := #[{ on := 22, ground := Ground.data }, { on := 21, ground := Ground.guard }], guard := some (21, false) }) (v := ?_) rfl (by kernel_rfl) (by kernel_rfl) (by kernel_rfl) (fun _ _ _ h => h) (Or.inl ⟨by rfl, ?_⟩) (by assumption) ?_
            rotate_left
            · (intro w hSw; obtain ⟨y0, y1, y2, y3, y4, y5, y6⟩ := HY.out _ hSw; go_simp; first | done | (with_reducible rfl))
            simp only [Act.put, List.setIfInBounds_toArray, List.set_cons_zero, List.set_cons_succ]
            refine wpAnyH_take (i := 24) (oi := { dst := some 91, op := Op.fieldAddr 50 (Operand.tmp 8) 5, type := 0, pos := "outright.go:117", after := #[{ on := 21, ground := Ground.guard }], guard := some (21, false) }) (v := ?_) rfl (by kernel_rfl) (by kernel_rfl) (by kernel_rfl) (fun _ _ _ h => h) (Or.inl ⟨by rfl, ?_⟩) (by assumption) ?_
            rotate_left
            · (intro w hSw; go_simp; first | done | (with_reducible rfl))
            simp only [Act.put, List.setIfInBounds_toArray, List.set_cons_zero, List.set_cons_succ]
            refine wpAnyH_take (i := 25) (oi := { dst := some 92, op := Op.load 9 (Operand.tmp 91), type := 9, pos := "outright.go:117", after := #[{ on := 24, ground := Ground.data }, { on := 21, ground := Ground.guard }], guard := some (21, false) }) (v := ?_) rfl (by kernel_rfl) (by kernel_rfl) (by kernel_rfl) (fun _ _ _ h => h) (Or.inl ⟨by rfl, ?_⟩) (by assumption) ?_
            rotate_left
            · (intro w hSw; obtain ⟨o2, o5, o8⟩ := HOB.out _ hSw; go_simp; first | done | (with_reducible rfl))
            simp only [Act.put, List.setIfInBounds_toArray, List.set_cons_zero, List.set_cons_succ]
            refine wpAnyH_take (i := 26) (oi := { dst := some 93, op := Op.binOp BinOp.neq 9 (Operand.tmp 90) (Operand.tmp 92) 9, type := 4, pos := "outright.go:117", after := #[{ on := 23, ground := Ground.data }, { on := 25, ground := Ground.data }, { on := 21, ground := Ground.guard }], guard := some (21, false) }) (v := .bool false) rfl (by kernel_rfl) (by kernel_rfl) (by kernel_rfl) (fun _ _ _ h => h) (Or.inl ⟨by rfl, ?_⟩) (by assumption) ?_
            · (intro w hSw; go_simp; first | done | (simp; done) | trace_state)
            simp only [Act.put, List.setIfInBounds_toArray, List.set_cons_zero, List.set_cons_succ]
            refine wpAnyH_take (i := 27) (oi := { dst := some 94, op := Op.pick (Operand.tmp 88) (Operand.const (Value.bool true)) (Operand.tmp 93), type := 4, pos := "outright.go:117", after := #[{ on := 21, ground := Ground.data }, { on := 26, ground := Ground.data }, { on := 2, ground := Ground.guard }], guard := some (2, true) }) (v := .bool false) rfl (by kernel_rfl) (by kernel_rfl) (by kernel_rfl) (fun _ _ _ h => h) (Or.inl ⟨by rfl, ?_⟩) (by assumption) ?_
            · (intro w hSw; go_simp; first | done | (simp; done) | trace_state)
            simp only [Act.put, List.setIfInBounds_toArray, List.set_cons_zero, List.set_cons_succ]
            refine wpAnyH_take (i := 28) (oi := { dst := some 95, op := Op.move (Operand.tmp 94), type := 4, pos := "outright.go:117", after := #[{ on := 27, ground := Ground.data }, { on := 21, ground := Ground.chain }, { on := 2, ground := Ground.guard }], guard := some (2, true) }) (v := ?_) rfl (by kernel_rfl) (by kernel_rfl) (by kernel_rfl) (fun _ _ _ h => h) (Or.inl ⟨by rfl, ?_⟩) (by assumption) ?_
            rotate_left
            · (intro w hSw; go_simp; first | done | (with_reducible rfl))
            simp only [Act.put, List.setIfInBounds_toArray, List.set_cons_zero, List.set_cons_succ]
            refine wpAnyH_take (i := 29) (oi := { dst := some 96, op := Op.fieldAddr 42 (Operand.tmp 11) 3, type := 0, pos := "outright.go:117", after := #[{ on := 28, ground := Ground.guard }], guard := some (28, false) }) (v := ?_) rfl (by kernel_rfl) (by kernel_rfl) (by kernel_rfl) (fun _ _ _ h => h) (Or.inl ⟨by rfl, ?_⟩) (by assumption) ?_
            rotate_left
            · (intro w hSw; go_simp; first | done | (with_reducible rfl))
            simp only [Act.put, List.setIfInBounds_toArray, List.set_cons_zero, List.set_cons_succ]
            refine wpAnyH_take (i := 30) (oi := { dst := some 97, op := Op.load 9 (Operand.tmp 96), type := 9, pos := "outright.go:117", after := #[{ on := 29, ground := Ground.data }, { on := 28, ground := Ground.guard }], guard := some (28, false) }) (v := ?_) rfl (by kernel_rfl) (by kernel_rfl) (by kernel_rfl) (fun _ _ _ h => h) (Or.inl ⟨by rfl, ?_⟩) (by assumption) ?_
            rotate_left
            · (intro w hSw; obtain ⟨y0, y1, y2, y3, y4, y5, y6⟩ := HY.out _ hSw; go_simp; first | done | (with_reducible rfl))
            simp only [Act.put, List.setIfInBounds_toArray, List.set_cons_zero, List.set_cons_succ]
            refine wpAnyH_take (i := 31) (oi := { dst := some 98, op := Op.fieldAddr 50 (Operand.tmp 8) 2, type := 0, pos := "outright.go:117", after := #[{ on := 28, ground := Ground.guard }], guard := some (28, false) }) (v := ?_) rfl (by kernel_rfl) (by kernel_rfl) (by kernel_rfl) (fun _ _ _ h => h) (Or.inl ⟨by rfl, ?_⟩) (by assumption) ?_
            rotate_left
            · (intro w hSw; go_simp; first | done | (with_reducible rfl))
            simp only [Act.put, List.setIfInBounds_toArray, List.set_cons_zero, List.set_cons_succ]
            refine wpAnyH_take (i := 32) (oi := { dst := some 99, op := Op.load 9 (Operand.tmp 98), type := 9, pos := "outright.go:117", after := #[{ on := 31, ground := Ground.data }, { on := 28, ground := Ground.guard }], guard := some (28, false) }) (v := ?_) rfl (by kernel_rfl) (by kernel_rfl) (by kernel_rfl) (fun _ _ _ h => h) (Or.inl ⟨by rfl, ?_⟩) (by assumption) ?_
            rotate_left
            · (intro w hSw; obtain ⟨o2, o5, o8⟩ := HOB.out _ hSw; go_simp; first | done | (with_reducible rfl))
            simp only [Act.put, List.setIfInBounds_toArray, List.set_cons_zero, List.set_cons_succ]
            refine wpAnyH_take (i := 33) (oi := { dst := some 100, op := Op.binOp BinOp.neq 9 (Operand.tmp 97) (Operand.tmp 99) 9, type := 4, pos := "outright.go:117", after := #[{ on := 30, ground := Ground.data }, { on := 32, ground := Ground.data }, { on := 28, ground := Ground.guard }], guard := some (28, false) }) (v := .bool false) rfl (by kernel_rfl) (by kernel_rfl) (by kernel_rfl) (fun _ _ _ h => h) (Or.inl ⟨by rfl, ?_⟩) (by assumption) ?_
            · (intro w hSw; go_simp; first | done | (simp; done) | trace_state)
            simp only [Act.put, List.setIfInBounds_toArray, List.set_cons_zero, List.set_cons_succ]
            refine wpAnyH_take (i := 34) (oi := { dst := some 101, op := Op.pick (Operand.tmp 95) (Operand.const (Value.bool true)) (Operand.tmp 100), type := 4, pos := "outright.go:117", after := #[{ on := 28, ground := Ground.data }, { on := 33, ground := Ground.data }, { on := 2, ground := Ground.guard }], guard := some (2, true) }) (v := .bool false) rfl (by kernel_rfl) (by kernel_rfl) (by kernel_rfl) (fun _ _ _ h => h) (Or.inl ⟨by rfl, ?_⟩) (by assumption) ?_
            · (intro w hSw; go_simp; first | done | (simp; done) | trace_state)
            simp only [Act.put, List.setIfInBounds_toArray, List.set_cons_zero, List.set_cons_succ]
            refine wpAnyH_take (i := 35) (oi := { dst := some 102, op := Op.move (Operand.tmp 101), type := 4, pos := "outright.go:117", after := #[{ on := 34, ground := Ground.data }, { on := 28, ground := Ground.chain }, { on := 2, ground := Ground.guard }], guard := some (2, true) }) (v := ?_) rfl (by kernel_rfl) (by kernel_rfl) (by kernel_rfl) (fun _ _ _ h => h) (Or.inl ⟨by rfl, ?_⟩) (by assumption) ?_
            rotate_left
            · (intro w hSw; go_simp; first | done | (with_reducible rfl))
            simp only [Act.put, List.setIfInBounds_toArray, List.set_cons_zero, List.set_cons_succ]
            refine wpAnyH_take (i := 36) (oi := { dst := some 103, op := Op.fieldAddr 42 (Operand.tmp 11) 4, type := 0, pos := "outright.go:117", after := #[{ on := 35, ground := Ground.guard }], guard := some (35, false) }) (v := ?_) rfl (by kernel_rfl) (by kernel_rfl) (by kernel_rfl) (fun _ _ _ h => h) (Or.inl ⟨by rfl, ?_⟩) (by assumption) ?_
            rotate_left
            · (intro w hSw; go_simp; first | done | (with_reducible rfl))
            simp only [Act.put, List.setIfInBounds_toArray, List.set_cons_zero, List.set_cons_succ]
            refine wpAnyH_take (i := 37) (oi := { dst := some 104, op := Op.load 40 (Operand.tmp 103), type := 40, pos := "outright.go:117", after := #[{ on := 36, ground := Ground.data }, { on := 35, ground := Ground.guard }], guard := some (35, false) }) (v := ?_) rfl (by kernel_rfl) (by kernel_rfl) (by kernel_rfl) (fun _ _ _ h => h) (Or.inl ⟨by rfl, ?_⟩) (by assumption) ?_
            rotate_left
            · (intro w hSw; obtain ⟨y0, y1, y2, y3, y4, y5, y6⟩ := HY.out _ hSw; go_simp; first | done | (with_reducible rfl))
            simp only [Act.put, List.setIfInBounds_toArray, List.set_cons_zero, List.set_cons_succ]
            refine wpAnyH_take (i := 38) (oi := { dst := some 105, op := Op.fieldAddr 50 (Operand.tmp 8) 8, type := 0, pos := "outright.go:117", after := #[{ on := 35, ground := Ground.guard }], guard := some (35, false) }) (v := ?_) rfl (by kernel_rfl) (by kernel_rfl) (by kernel_rfl) (fun _ _ _ h => h) (Or.inl ⟨by rfl, ?_⟩) (by assumption) ?_
            rotate_left
            · (intro w hSw; go_simp; first | done | (with_reducible rfl))
            simp only [Act.put, List.setIfInBounds_toArray, List.set_cons_zero, List.set_cons_succ]
            refine wpAnyH_take (i := 39) (oi := { dst := some 106, op := Op.load 40 (Operand.tmp 105), type := 40, pos := "outright.go:117", after := #[{ on := 38, ground := Ground.data }, { on := 35, ground := Ground.guard }], guard := some (35, false) }) (v := ?_) rfl (by kernel_rfl) (by kernel_rfl) (by kernel_rfl) (fun _ _ _ h => h) (Or.inl ⟨by rfl, ?_⟩) (by assumption) ?_
            rotate_left
            · (intro w hSw; obtain ⟨o2, o5, o8⟩ := HOB.out _ hSw; go_simp; first | done | (with_reducible rfl))
            simp only [Act.put, List.setIfInBounds_toArray, List.set_cons_zero, List.set_cons_succ]
            refine wpAnyH_take (i := 40) (oi := { dst := some 107, op := Op.binOp BinOp.neq 40 (Operand.tmp 104) (Operand.tmp 106) 40, type := 4, pos := "outright.go:117", after := #[{ on := 37, ground := Ground.data }, { on := 39, ground := Ground.data }, { on := 35, ground := Ground.guard }], guard := some (35, false) }) (v := .bool false) rfl (by kernel_rfl) (by kernel_rfl) (by kernel_rfl) (fun _ _ _ h => h) (Or.inl ⟨by rfl, ?_⟩) (by assumption) ?_
            · (intro w hSw; go_simp; first | done | (simp; done) | trace_state)
            simp only [Act.put, List.setIfInBounds_toArray, List.set_cons_zero, List.set_cons_succ]
            refine wpAnyH_take (i := 41) (oi := { dst := some 108, op := Op.pick (Operand.tmp 102) (Operand.const (Value.bool true)) (Operand.tmp 107), type := 4, pos := "outright.go:117", after := #[{ on := 35, ground := Ground.data }, { on := 40, ground := Ground.data }, { on := 2, ground := Ground.guard }], guard := some (2, true) }) (v := .bool false) rfl (by kernel_rfl) (by kernel_rfl) (by kernel_rfl) (fun _ _ _ h => h) (Or.inl ⟨by rfl, ?_⟩) (by assumption) ?_
            · (intro w hSw; go_simp; first | done | (simp; done) | trace_state)
            simp only [Act.put, List.setIfInBounds_toArray, List.set_cons_zero, List.set_cons_succ]
            refine wpAnyH_take (i := 42) (oi := { dst := some 109, op := Op.move (Operand.tmp 108), type := 4, pos := "outright.go:117", after := #[{ on := 41, ground := Ground.data }, { on := 35, ground := Ground.chain }, { on := 2, ground := Ground.guard }], guard := some (2, true) }) (v := ?_) rfl (by kernel_rfl) (by kernel_rfl) (by kernel_rfl) (fun _ _ _ h => h) (Or.inl ⟨by rfl, ?_⟩) (by assumption) ?_
            rotate_left
            · (intro w hSw; go_simp; first | done | (with_reducible rfl))
            simp only [Act.put, List.setIfInBounds_toArray, List.set_cons_zero, List.set_cons_succ]
            refine wpAnyH_take (i := 43) (oi := { dst := some 110, op := Op.fieldAddr 42 (Operand.tmp 11) 5, type := 0, pos := "outright.go:117", after := #[{ on := 42, ground := Ground.guard }], guard := some (42, false) }) (v := ?_) rfl (by kernel_rfl) (by kernel_rfl) (by kernel_rfl) (fun _ _ _ h => h) (Or.inl ⟨by rfl, ?_⟩) (by assumption) ?_
            rotate_left
            · (intro w hSw; go_simp; first | done | (with_reducible rfl))
            simp only [Act.put, List.setIfInBounds_toArray, List.set_cons_zero, List.set_cons_succ]
            refine wpAnyH_take (i := 44) (oi := { dst := some 111, op := Op.load 40 (Operand.tmp 110), type := 40, pos := "outright.go:117", after := #[{ on := 43, ground := Ground.data }, { on := 42, ground := Ground.guard }], guard := some (42, false) }) (v := ?_) rfl (by kernel_rfl) (by kernel_rfl) (by kernel_rfl) (fun _ _ _ h => h) (Or.inl ⟨by rfl, ?_⟩) (by assumption) ?_
            rotate_left
            · (intro w hSw; obtain ⟨y0, y1, y2, y3, y4, y5, y6⟩ := HY.out _ hSw; go_simp; first | done | (with_reducible rfl))
            simp only [Act.put, List.setIfInBounds_toArray, List.set_cons_zero, List.set_cons_succ]
            refine wpAnyH_take (i := 45) (oi := { dst := some 112, op := Op.binOp BinOp.neq 40 (Operand.tmp 111) (Operand.const (Value.int IntKind.u64 0)) 40, type := 4, pos := "outright.go:117", after := #[{ on := 44, ground := Ground.data }, { on := 42, ground := Ground.guard }], guard := some (42, false) }) (v := .bool false) rfl (by kernel_rfl) (by kernel_rfl) (by kernel_rfl) (fun _ _ _ h => h) (Or.inl ⟨by rfl, ?_⟩) (by assumption) ?_
            · (intro w hSw; go_simp; first | done | (simp; done) | trace_state)
            simp only [Act.put, List.setIfInBounds_toArray, List.set_cons_zero, List.set_cons_succ]
            refine wpAnyH_take (i := 46) (oi := { dst := some 113, op := Op.pick (Operand.tmp 109) (Operand.const (Value.bool true)) (Operand.tmp 112), type := 4, pos := "outright.go:117", after := #[{ on := 42, ground := Ground.data }, { on := 45, ground := Ground.data }, { on := 2, ground := Ground.guard }], guard := some (2, true) }) (v := .bool false) rfl (by kernel_rfl) (by kernel_rfl) (by kernel_rfl) (fun _ _ _ h => h) (Or.inl ⟨by rfl, ?_⟩) (by assumption) ?_
            · (intro w hSw; go_simp; first | done | (simp; done) | trace_state)
            simp only [Act.put, List.setIfInBounds_toArray, List.set_cons_zero, List.set_cons_succ]
            refine wpAnyH_take (i := 47) (oi := { dst := some 114, op := Op.move (Operand.tmp 113), type := 4, pos := "outright.go:117", after := #[{ on := 46, ground := Ground.data }, { on := 42, ground := Ground.chain }, { on := 2, ground := Ground.guard }], guard := some (2, true) }) (v := ?_) rfl (by kernel_rfl) (by kernel_rfl) (by kernel_rfl) (fun _ _ _ h => h) (Or.inl ⟨by rfl, ?_⟩) (by assumption) ?_
            rotate_left
            · (intro w hSw; go_simp; first | done | (with_reducible rfl))
            simp only [Act.put, List.setIfInBounds_toArray, List.set_cons_zero, List.set_cons_succ]
            refine wpAnyH_take (i := 48) (oi := { dst := some 115, op := Op.fieldAddr 42 (Operand.tmp 11) 6, type := 0, pos := "outright.go:117", after := #[{ on := 47, ground := Ground.guard }], guard := some (47, false) }) (v := ?_) rfl (by kernel_rfl) (by kernel_rfl) (by kernel_rfl) (fun _ _ _ h => h) (Or.inl ⟨by rfl, ?_⟩) (by assumption) ?_
            rotate_left
            · (intro w hSw; go_simp; first | done | (with_reducible rfl))
            simp only [Act.put, List.setIfInBounds_toArray, List.set_cons_zero, List.set_cons_succ]
            refine wpAnyH_take (i := 49) (oi := { dst := some 116, op := Op.load 40 (Operand.tmp 115), type := 40, pos := "outright.go:117", after := #[{ on := 48, ground := Ground.data }, { on := 47, ground := Ground.guard }], guard := some (47, false) }) (v := ?_) rfl (by kernel_rfl) (by kernel_rfl) (by kernel_rfl) (fun _ _ _ h => h) (Or.inl ⟨by rfl, ?_⟩) (by assumption) ?_
            rotate_left
            · (intro w hSw; obtain ⟨y0, y1, y2, y3, y4, y5, y6⟩ := HY.out _ hSw; go_simp; first | done | (with_reducible rfl))
            simp only [Act.put, List.setIfInBounds_toArray, List.set_cons_zero, List.set_cons_succ]
            refine wpAnyH_take (i := 50) (oi := { dst := some 117, op := Op.binOp BinOp.neq 40 (Operand.tmp 116) (Operand.const (Value.int IntKind.u64 0)) 40, type := 4, pos := "outright.go:117", after := #[{ on := 49, ground := Ground.data }, { on := 47, ground := Ground.guard }], guard := some (47, false) }) (v := .bool false) rfl (by kernel_rfl) (by kernel_rfl) (by kernel_rfl) (fun _ _ _ h => h) (Or.inl ⟨by rfl, ?_⟩) (by assumption) ?_
            · (intro w hSw; go_simp; first | done | (simp; done) | trace_state)
            simp only [Act.put, List.setIfInBounds_toArray, List.set_cons_zero, List.set_cons_succ]
            refine wpAnyH_take (i := 51) (oi := { dst := some 118, op := Op.pick (Operand.tmp 114) (Operand.const (Value.bool true)) (Operand.tmp 117), type := 4, pos := "outright.go:117", after := #[{ on := 47, ground := Ground.data }, { on := 50, ground := Ground.data }, { on := 2, ground := Ground.guard }], guard := some (2, true) }) (v := .bool false) rfl (by kernel_rfl) (by kernel_rfl) (by kernel_rfl) (fun _ _ _ h => h) (Or.inl ⟨by rfl, ?_⟩) (by assumption) ?_
            · (intro w hSw; go_simp; first | done | (simp; done) | trace_state)
            simp only [Act.put, List.setIfInBounds_toArray, List.set_cons_zero, List.set_cons_succ]
            refine wpAnyH_take (i := 52) (oi := { dst := some 119, op := Op.pick (Operand.tmp 69) (Operand.tmp 118) (Operand.const (Value.bool false)), type := 4, pos := "outright.go:117", after := #[{ on := 2, ground := Ground.data }, { on := 51, ground := Ground.data }], guard := none }) (v := .bool false) rfl (by kernel_rfl) (by kernel_rfl) (by kernel_rfl) (fun _ _ _ h => h) (Or.inl ⟨by rfl, ?_⟩) (by assumption) ?_
            · (intro w hSw; go_simp; first | done | (simp; done) | trace_state)
            simp only [Act.put, List.setIfInBounds_toArray, List.set_cons_zero, List.set_cons_succ]
            refine wpAnyH_take (i := 53) (oi := { dst := some 120, op := Op.move (Operand.tmp 119), type := 4, pos := "outright.go:117", after := #[{ on := 52, ground := Ground.data }, { on := 47, ground := Ground.chain }], guard := none }) (v := ?_) rfl (by kernel_rfl) (by kernel_rfl) (by kernel_rfl) (fun _ _ _ h => h) (Or.inl ⟨by rfl, ?_⟩) (by assumption) ?_
            rotate_left
            · (intro w hSw; go_simp; first | done | (with_reducible rfl))
            simp only [Act.put, List.setIfInBounds_toArray, List.set_cons_zero, List.set_cons_succ]
            refine wpAnyH_take (i := 54) (oi := { dst := some 121, op := Op.move (Operand.tmp 12), type := 29, pos := "outright.go:117", after := #[{ on := 53, ground := Ground.guard }], guard := some (53, false) }) (v := ?_) rfl (by kernel_rfl) (by kernel_rfl) (by kernel_rfl) (fun _ _ _ h => h) (Or.inl ⟨by rfl, ?_⟩) (by assumption) ?_
            rotate_left
            · (intro w hSw; go_simp; first | done | (with_reducible rfl))
            simp only [Act.put, List.setIfInBounds_toArray, List.set_cons_zero, List.set_cons_succ]
            refine wpAnyH_take (i := 55) (oi := { dst := some 122, op := Op.binOp BinOp.neq 3 (Operand.tmp 121) (Operand.const (Value.int IntKind.i64 0)) 3, type := 4, pos := "outright.go:117", after := #[{ on := 54, ground := Ground.data }, { on := 53, ground := Ground.guard }], guard := some (53, false) }) (v := .bool false) rfl (by kernel_rfl) (by kernel_rfl) (by kernel_rfl) (fun _ _ _ h => h) (Or.inl ⟨by rfl, ?_⟩) (by assumption) ?_
            · (intro w hSw; go_simp; first | done | (simp; done) | trace_state)
            simp only [Act.put, List.setIfInBounds_toArray, List.set_cons_zero, List.set_cons_succ]
            refine wpAnyH_take (i := 56) (oi := { dst := some 123, op := Op.move (Operand.tmp 122), type := 4, pos := "outright.go:117", after := #[{ on := 55, ground := Ground.data }, { on := 53, ground := Ground.chain }, { on := 53, ground := Ground.guard }], guard := some (53, false) }) (v := ?_) rfl (by kernel_rfl) (by kernel_rfl) (by kernel_rfl) (fun _ _ _ h => h) (Or.inl ⟨by rfl, ?_⟩) (by assumption) ?_
            rotate_left
            · (intro w hSw; go_simp; first | done | (with_reducible rfl))
            simp only [Act.put, List.setIfInBounds_toArray, List.set_cons_zero, List.set_cons_succ]
            refine wpAnyH_take (i := 57) (oi := { dst := some 124, op := Op.move (Operand.tmp 5), type := 28, pos := "outright.go:117", after := #[{ on := 56, ground := Ground.guard }], guard := some (56, true) }) (v := undef) rfl (by kernel_rfl) (by kernel_rfl) (by kernel_rfl) (fun _ _ _ h => h) (Or.inr ⟨by rfl, rfl⟩) (by assumption) ?_
            simp only [Act.put, List.setIfInBounds_toArray, List.set_cons_zero, List.set_cons_succ]
            refine wpAnyH_take (i := 59) (oi := { dst := some 126, op := Op.move (Operand.tmp 9), type := 40, pos := "outright.go:117", after := #[{ on := 56, ground := Ground.guard }], guard := some (56, true) }) (v := undef) rfl (by kernel_rfl) (by kernel_rfl) (by kernel_rfl) (fun _ _ _ h => h) (Or.inr ⟨by rfl, rfl⟩) (by assumption) ?_
            simp only [Act.put, List.setIfInBounds_toArray, List.set_cons_zero, List.set_cons_succ]
            refine wpAnyH_take (i := 58) (oi := { dst := some 125, op := Op.call { callee := Callee.value (Operand.func 26), args := #[Operand.tmp 124], argTypes := #[28] }, type := 40, pos := "outright.go:117", after := #[{ on := 57, ground := Ground.data }, { on := 56, ground := Ground.chain }, { on := 56, ground := Ground.guard }], guard := some (56, true) }) (v := undef) rfl (by kernel_rfl) (by kernel_rfl) (by kernel_rfl) (fun _ _ _ h => h) (Or.inr ⟨by rfl, rfl⟩) (by assumption) ?_
            simp only [Act.put, List.setIfInBounds_toArray, List.set_cons_zero, List.set_cons_succ]
            refine wpAnyH_take (i := 60) (oi := { dst := some 127, op := Op.binOp BinOp.neq 40 (Operand.tmp 125) (Operand.tmp 126) 40, type := 4, pos := "outright.go:117", after := #[{ on := 58, ground := Ground.data }, { on := 59, ground := Ground.data }, { on := 56, ground := Ground.guard }], guard := some (56, true) }) (v := undef) rfl (by kernel_rfl) (by kernel_rfl) (by kernel_rfl) (fun _ _ _ h => h) (Or.inr ⟨by rfl, rfl⟩) (by assumption) ?_
            simp only [Act.put, List.setIfInBounds_toArray, List.set_cons_zero, List.set_cons_succ]
            refine wpAnyH_take (i := 61) (oi := { dst := some 128, op := Op.move (Operand.tmp 127), type := 4, pos := "outright.go:117", after := #[{ on := 60, ground := Ground.data }, { on := 58, ground := Ground.chain }, { on := 56, ground := Ground.guard }], guard := some (56, true) }) (v := undef) rfl (by kernel_rfl) (by kernel_rfl) (by kernel_rfl) (fun _ _ _ h => h) (Or.inr ⟨by rfl, rfl⟩) (by assumption) ?_
            simp only [Act.put, List.setIfInBounds_toArray, List.set_cons_zero, List.set_cons_succ]
            refine wpAnyH_take (i := 62) (oi := { dst := some 129, op := Op.load 42 (Operand.tmp 11), type := 42, pos := "outright.go:117", after := #[{ on := 61, ground := Ground.guard }], guard := some (61, false) }) (v := undef) rfl (by kernel_rfl) (by kernel_rfl) (by kernel_rfl) (fun _ _ _ h => h) (Or.inr ⟨by rfl, rfl⟩) (by assumption) ?_
            simp only [Act.put, List.setIfInBounds_toArray, List.set_cons_zero, List.set_cons_succ]
            refine wpAnyH_take (i := 63) (oi := { dst := some 130, op := Op.build 42 #[], type := 42, pos := "outright.go:117", after := #[{ on := 61, ground := Ground.guard }], guard := some (61, false) }) (v := undef) rfl (by kernel_rfl) (by kernel_rfl) (by kernel_rfl) (fun _ _ _ h => h) (Or.inr ⟨by rfl, rfl⟩) (by assumption) ?_
            simp only [Act.put, List.setIfInBounds_toArray, List.set_cons_zero, List.set_cons_succ]
            refine wpAnyH_take (i := 64) (oi := { dst := some 131, op := Op.binOp BinOp.neq 42 (Operand.tmp 129) (Operand.tmp 130) 42, type := 4, pos := "outright.go:117", after := #[{ on := 62, ground := Ground.data }, { on := 63, ground := Ground.data }, { on := 61, ground := Ground.guard }], guard := some (61, false) }) (v := undef) rfl (by kernel_rfl) (by kernel_rfl) (by kernel_rfl) (fun _ _ _ h => h) (Or.inr ⟨by rfl, rfl⟩) (by assumption) ?_
            simp only [Act.put, List.setIfInBounds_toArray, List.set_cons_zero, List.set_cons_succ]
            refine wpAnyH_take (i := 65) (oi := { dst := some 132, op := Op.pick (Operand.tmp 128) (Operand.const (Value.bool true)) (Operand.tmp 131), type := 4, pos := "outright.go:117", after := #[{ on := 61, ground := Ground.data }, { on := 64, ground := Ground.data }, { on := 56, ground := Ground.guard }], guard := some (56, true) }) (v := undef) rfl (by kernel_rfl) (by kernel_rfl) (by kernel_rfl) (fun _ _ _ h => h) (Or.inr ⟨by rfl, rfl⟩) (by assumption) ?_
            simp only [Act.put, List.setIfInBounds_toArray, List.set_cons_zero, List.set_cons_succ]
            refine wpAnyH_take (i := 66) (oi := { dst := some 133, op := Op.move (Operand.tmp 132), type := 4, pos := "outright.go:117", after := #[{ on := 65, ground := Ground.data }, { on := 61, ground := Ground.chain }, { on := 56, ground := Ground.guard }], guard := some (56, true) }) (v := undef) rfl (by kernel_rfl) (by kernel_rfl) (by kernel_rfl) (fun _ _ _ h => h) (Or.inr ⟨by rfl, rfl⟩) (by assumption) ?_
            simp only [Act.put, List.setIfInBounds_toArray, List.set_cons_zero, List.set_cons_succ]
            refine wpAnyH_take (i := 67) (oi := { dst := some 134, op := Op.move (Operand.tmp 5), type := 28, pos := "outright.go:117", after := #[{ on := 66, ground := Ground.guard }], guard := some (66, false) }) (v := undef) rfl (by kernel_rfl) (by kernel_rfl) (by kernel_rfl) (fun _ _ _ h => h) (Or.inr ⟨by rfl, rfl⟩) (by assumption) ?_
            simp only [Act.put, List.setIfInBounds_toArray, List.set_cons_zero, List.set_cons_succ]
            refine wpAnyH_take (i := 69) (oi := { dst := some 136, op := Op.move (Operand.tmp 10), type := 63, pos := "outright.go:117", after := #[{ on := 66, ground := Ground.guard }], guard := some (66, false) }) (v := undef) rfl (by kernel_rfl) (by kernel_rfl) (by kernel_rfl) (fun _ _ _ h => h) (Or.inr ⟨by rfl, rfl⟩) (by assumption) ?_
            simp only [Act.put, List.setIfInBounds_toArray, List.set_cons_zero, List.set_cons_succ]
            refine wpAnyH_take (i := 68) (oi := { dst := some 135, op := Op.call { callee := Callee.value (Operand.func 27), args := #[Operand.tmp 134], argTypes := #[28] }, type := 63, pos := "outright.go:117", after := #[{ on := 67, ground := Ground.data }, { on := 66, ground := Ground.chain }, { on := 66, ground := Ground.guard }], guard := some (66, false) }) (v := undef) rfl (by kernel_rfl) (by kernel_rfl) (by kernel_rfl) (fun _ _ _ h => h) (Or.inr ⟨by rfl, rfl⟩) (by assumption) ?_
            simp only [Act.put, List.setIfInBounds_toArray, List.set_cons_zero, List.set_cons_succ]
            refine wpAnyH_take (i := 70) (oi := { dst := some 137, op := Op.call { callee := Callee.value (Operand.func 29), args := #[Operand.tmp 135, Operand.tmp 136], argTypes := #[63, 63] }, type := 4, pos := "outright.go:117", after := #[{ on := 68, ground := Ground.data }, { on := 69, ground := Ground.data }, { on := 68, ground := Ground.chain }, { on := 66, ground := Ground.guard }], guard := some (66, false) }) (v := undef) rfl (by kernel_rfl) (by kernel_rfl) (by kernel_rfl) (fun _ _ _ h => h) (Or.inr ⟨by rfl, rfl⟩) (by assumption) ?_
            simp only [Act.put, List.setIfInBounds_toArray, List.set_cons_zero, List.set_cons_succ]
            refine wpAnyH_take (i := 71) (oi := { dst := some 138, op := Op.unOp UnOp.not 4 (Operand.tmp 137), type := 4, pos := "outright.go:117", after := #[{ on := 70, ground := Ground.data }, { on := 66, ground := Ground.guard }], guard := some (66, false) }) (v := undef) rfl (by kernel_rfl) (by kernel_rfl) (by kernel_rfl) (fun _ _ _ h => h) (Or.inr ⟨by rfl, rfl⟩) (by assumption) ?_
            simp only [Act.put, List.setIfInBounds_toArray, List.set_cons_zero, List.set_cons_succ]
            refine wpAnyH_take (i := 72) (oi := { dst := some 139, op := Op.pick (Operand.tmp 133) (Operand.const (Value.bool true)) (Operand.tmp 138), type := 4, pos := "outright.go:117", after := #[{ on := 66, ground := Ground.data }, { on := 71, ground := Ground.data }, { on := 56, ground := Ground.guard }], guard := some (56, true) }) (v := undef) rfl (by kernel_rfl) (by kernel_rfl) (by kernel_rfl) (fun _ _ _ h => h) (Or.inr ⟨by rfl, rfl⟩) (by assumption) ?_
            simp only [Act.put, List.setIfInBounds_toArray, List.set_cons_zero, List.set_cons_succ]
            refine wpAnyH_take (i := 73) (oi := { dst := some 140, op := Op.pick (Operand.tmp 123) (Operand.tmp 139) (Operand.const (Value.bool false)), type := 4, pos := "outright.go:117", after := #[{ on := 56, ground := Ground.data }, { on := 72, ground := Ground.data }, { on := 53, ground := Ground.guard }], guard := some (53, false) }) (v := .bool false) rfl (by kernel_rfl) (by kernel_rfl) (by kernel_rfl) (fun _ _ _ h => h) (Or.inl ⟨by rfl, ?_⟩) (by assumption) ?_
            · (intro w hSw; go_simp; first | done | (simp; done) | trace_state)
            simp only [Act.put, List.setIfInBounds_toArray, List.set_cons_zero, List.set_cons_succ]
            refine wpAnyH_take (i := 74) (oi := { dst := some 141, op := Op.pick (Operand.tmp 120) (Operand.const (Value.bool true)) (Operand.tmp 140), type := 4, pos := "outright.go:117", after := #[{ on := 53, ground := Ground.data }, { on := 73, ground := Ground.data }], guard := none }) (v := .bool false) rfl (by kernel_rfl) (by kernel_rfl) (by kernel_rfl) (fun _ _ _ h => h) (Or.inl ⟨by rfl, ?_⟩) (by assumption) ?_
            · (intro w hSw; go_simp; first | done | (simp; done) | trace_state)
            simp only [Act.put, List.setIfInBounds_toArray, List.set_cons_zero, List.set_cons_succ]
            refine wpAnyH_done (by kernel_rfl) ?_ _
            have S8 : Sep w _ (lobA la X' :: boxA b11 yl 42 :: rowV 42 7 (.slice a n cap) n (X.S.flatMap lvc) :: boxA ob (opv x) 50 :: boxA cb cl 24 :: []) := hHeld.swap
            clear HY HOB HNX HFR HLC HJ HWN H1 HNN HLN
            have hB := bounded_c w _ _ la X' cl S8 HX'.out.1 HX'.out.2.1 HX'.out.2.2.1 HNK.out.1 (HC0.out X' HX'.out.2.2.2.2) (fun W l h => lives_c w W l la X' h HX'.out.1 HX'.out.2.1)
            have RNG := Keep.mk (S8.boxGet k4m).range
            clear S8 HC0
            go_wp2_with (first
              | (show wpList _ _ _ ({ dst := _, op := Op.load 24 _, type := _, pos := _, after := _, guard := _ } :: _) _ _
                 refine wpList_load_mid rfl 24 _ rfl _ _ rfl _ _ RNG.out hdu hdr (by rw [HCL.out.1]; exact info24) ?_))
            refine hB.mono ?_
            rintro ex w9 ⟨rfl, S9⟩
            have HSX : Keep (Sep w w9 [lobA la X', boxA cb cl 24]) := ⟨Sep.dropM [lobA la X'] [boxA b11 yl 42, rowV 42 7 (.slice a n cap) n (X.S.flatMap lvc), boxA ob (opv x) 50] S9⟩
            clear hB S9 RNG
            go_wp2_with fail
            go_roundw
            case rel => exact ⟨i + 1, X', by have := HI.out; omega, by have := HI.out; omega, rfl, HSX, HX'⟩
            case measure => simp [intOf]; have := HI.out; omega
          · have HCZ : Keep (joiC X x.nm ≠ 0) := ⟨jc⟩
            have e2 : joiX X x.a x.b x.c x.nm x.tick = X := by unfold joiX; rw [js]
            rw [e2] at hJ HX'
            rw [js] at hJ
            simp only [Option.map_none, Option.getD_none] at hJ
            obtain ⟨cz, hcz⟩ : ∃ cz, joiC X x.nm = cz := ⟨_, rfl⟩
            rw [hcz] at hJ HCZ
            clear HS4 jc js e2 hcz
            go_wp2_with fail
            refine hJ.mono ?_
            rintro ex w5 ⟨rfl, S5⟩
            have HS5 := Keep.mk S5
            clear hJ S5
            go_wp2_with (first
              | (show wpList _ _ _ ({ dst := _, op := Op.store 42 _ _, type := _, pos := _, after := _, guard := _ } :: _) _ _
                 refine store_new _ (z7) 42 rfl rfl rfl rfl rfl (by exact info42) (z7_one) ?_))
            intro w6 hS6 g6
            have S6 := hS6 w _ HS5.out
            generalize w5.heap.size = b11 at S6 ⊢
            have HY : Keep (∀ W, Sep w W (boxA b11 z7 42 :: lobA la X :: rowV 42 7 (.slice a n cap) n (X.S.flatMap lvc) :: boxA ob (opv x) 50 :: boxA cb cl 24 :: []) → W.cell? ⟨b11, 0, none⟩ = some (.int .u64 0) ∧ W.cell? ⟨b11, 1, none⟩ = some (.int .i64 0) ∧ W.cell? ⟨b11, 2, none⟩ = some (.string ⟨#[]⟩) ∧ W.cell? ⟨b11, 3, none⟩ = some (.string ⟨#[]⟩) ∧ W.cell? ⟨b11, 4, none⟩ = some (.int .u64 0) ∧ W.cell? ⟨b11, 5, none⟩ = some (.int .u64 0) ∧ W.cell? ⟨b11, 6, none⟩ = some (.int .u64 0)) := ⟨fun W h => by
              have q := h.boxGet k0m
              exact ⟨q.cellv 0 _ rfl, q.cellv 1 _ rfl, q.cellv 2 _ rfl, q.cellv 3 _ rfl, q.cellv 4 _ rfl, q.cellv 5 _ rfl, q.cellv 6 _ rfl⟩⟩
            have HNX : Keep (∀ W, Sep w W (boxA b11 z7 42 :: lobA la X :: rowV 42 7 (.slice a n cap) n (X.S.flatMap lvc) :: boxA ob (opv x) 50 :: boxA cb cl 24 :: []) → Calls Tryd.prog 26 #[pt la] W fun e W' => e = .returned (uv X.next) ∧ W' = W) := ⟨fun W h => next_c w W _ la X h.swap⟩
            replace HLV : Keep (∀ W, Sep w W (boxA b11 z7 42 :: lobA la X :: rowV 42 7 (.slice a n cap) n (X.S.flatMap lvc) :: boxA ob (opv x) 50 :: boxA cb cl 24 :: []) → Calls Tryd.prog 27 #[pt la] W fun e W' => ∃ v, e = .returned v ∧ Sep w W' (rowV 42 7 v X.S.length (X.S.flatMap lvc) :: lobA la X :: boxA b11 z7 42 :: rowV 42 7 (.slice a n cap) n (X.S.flatMap lvc) :: boxA ob (opv x) 50 :: boxA cb cl 24 :: [])) := ⟨fun W h => HLV.out W _ h.swap⟩
            have HL6 : Keep (Sep w w6.drew (boxA b11 z7 42 :: lobA la X :: rowV 42 7 (.slice a n cap) n (X.S.flatMap lvc) :: boxA ob (opv x) 50 :: boxA cb cl 24 :: [])) := ⟨S6.grown (gr_drew w6 none)⟩
            clear hS6 g6 S6 HS5 d0 d2 d3 d4 d5 d8
            go_wp2_with fail
            refine wp_region_held_drew (S := fun w' => Sep w w' (boxA b11 z7 42 :: lobA la X :: rowV 42 7 (.slice a n cap) n (X.S.flatMap lvc) :: boxA ob (opv x) 50 :: boxA cb cl 24 :: [])) (by kernel_rfl) HL6.out (fun hHeld => ?_)
            clear HL6
            generalize w6.drew = wA0 at hHeld ⊢
            refine wpAnyH_take (i := 0) (oi := { dst := some 67, op := Op.move (Operand.tmp 12), type := 29, pos := "outright.go:117", after := #[], guard := none }) (v := ?_) rfl (by kernel_rfl) (by kernel_rfl) (by kernel_rfl) (fun _ _ _ h => h) (Or.inl ⟨by rfl, ?_⟩) (by assumption) ?_
            rotate_left
            · (intro w hSw; go_simp; first | done | (with_reducible rfl))
            simp only [Act.put, List.setIfInBounds_toArray, List.set_cons_zero, List.set_cons_succ]
            refine wpAnyH_take (i := 1) (oi := { dst := some 68, op := Op.binOp BinOp.eql 3 (Operand.tmp 67) (Operand.const (Value.int IntKind.i64 0)) 3, type := 4, pos := "outright.go:117", after := #[{ on := 0, ground := Ground.data }], guard := none }) (v := .bool false) rfl (by kernel_rfl) (by kernel_rfl) (by kernel_rfl) (fun _ _ _ h => h) (Or.inl ⟨by rfl, ?_⟩) (by assumption) ?_
            · (intro w hSw; have f1 := HCZ.out; have f2 : (cz == 0) = false := (by simpa using f1); have f3 : decide (cz = 0) = false := decide_eq_false f1; go_simp; first | done | (simp; done) | trace_state)
            simp only [Act.put, List.setIfInBounds_toArray, List.set_cons_zero, List.set_cons_succ]
            refine wpAnyH_take (i := 2) (oi := { dst := some 69, op := Op.move (Operand.tmp 68), type := 4, pos := "outright.go:117", after := #[{ on := 1, ground := Ground.data }], guard := none }) (v := ?_) rfl (by kernel_rfl) (by kernel_rfl) (by kernel_rfl) (fun _ _ _ h => h) (Or.inl ⟨by rfl, ?_⟩) (by assumption) ?_
            rotate_left
            · (intro w hSw; go_simp; first | done | (with_reducible rfl))
            simp only [Act.put, List.setIfInBounds_toArray, List.set_cons_zero, List.set_cons_succ]
            refine wpAnyH_take (i := 3) (oi := { dst := some 70, op := Op.fieldAddr 42 (Operand.tmp 11) 0, type := 0, pos := "outright.go:117", after := #[{ on := 2, ground := Ground.guard }], guard := some (2, true) }) (v := undef) rfl (by kernel_rfl) (by kernel_rfl) (by kernel_rfl) (fun _ _ _ h => h) (Or.inr ⟨by rfl, rfl⟩) (by assumption) ?_
            simp only [Act.put, List.setIfInBounds_toArray, List.set_cons_zero, List.set_cons_succ]
            refine wpAnyH_take (i := 4) (oi := { dst := some 71, op := Op.load 40 (Operand.tmp 70), type := 40, pos := "outright.go:117", after := #[{ on := 3, ground := Ground.data }, { on := 2, ground := Ground.guard }], guard := some (2, true) }) (v := undef) rfl (by kernel_rfl) (by kernel_rfl) (by kernel_rfl) (fun _ _ _ h => h) (Or.inr ⟨by rfl, rfl⟩) (by assumption) ?_
            simp only [Act.put, List.setIfInBounds_toArray, List.set_cons_zero, List.set_cons_succ]
            refine wpAnyH_take (i := 5) (oi := { dst := some 72, op := Op.move (Operand.tmp 9), type := 40, pos := "outright.go:117", after := #[{ on := 2, ground := Ground.guard }], guard := some (2, true) }) (v := undef) rfl (by kernel_rfl) (by kernel_rfl) (by kernel_rfl) (fun _ _ _ h => h) (Or.inr ⟨by rfl, rfl⟩) (by assumption) ?_
            simp only [Act.put, List.setIfInBounds_toArray, List.set_cons_zero, List.set_cons_succ]
            refine wpAnyH_take (i := 6) (oi := { dst := some 73, op := Op.binOp BinOp.neq 40 (Operand.tmp 71) (Operand.tmp 72) 40, type := 4, pos := "outright.go:117", after := #[{ on := 4, ground := Ground.data }, { on := 5, ground := Ground.data }, { on := 2, ground := Ground.guard }], guard := some (2, true) }) (v := undef) rfl (by kernel_rfl) (by kernel_rfl) (by kernel_rfl) (fun _ _ _ h => h) (Or.inr ⟨by rfl, rfl⟩) (by assumption) ?_
            simp only [Act.put, List.setIfInBounds_toArray, List.set_cons_zero, List.set_cons_succ]
            refine wpAnyH_take (i := 7) (oi := { dst := some 74, op := Op.move (Operand.tmp 73), type := 4, pos := "outright.go:117", after := #[{ on := 6, ground := Ground.data }, { on := 2, ground := Ground.chain }, { on := 2, ground := Ground.guard }], guard := some (2, true) }) (v := undef) rfl (by kernel_rfl) (by kernel_rfl) (by kernel_rfl) (fun _ _ _ h => h) (Or.inr ⟨by rfl, rfl⟩) (by assumption) ?_
            simp only [Act.put, List.setIfInBounds_toArray, List.set_cons_zero, List.set_cons_succ]
            refine wpAnyH_take (i := 8) (oi := { dst := some 75, op := Op.move (Operand.tmp 5), type := 28, pos := "outright.go:117", after := #[{ on := 7, ground := Ground.guard }], guard := some (7, false) }) (v := undef) rfl (by kernel_rfl) (by kernel_rfl) (by kernel_rfl) (fun _ _ _ h => h) (Or.inr ⟨by rfl, rfl⟩) (by assumption) ?_
            simp only [Act.put, List.setIfInBounds_toArray, List.set_cons_zero, List.set_cons_succ]
            refine wpAnyH_take (i := 10) (oi := { dst := some 77, op := Op.move (Operand.tmp 9), type := 40, pos := "outright.go:117", after := #[{ on := 7, ground := Ground.guard }], guard := some (7, false) }) (v := undef) rfl (by kernel_rfl) (by kernel_rfl) (by kernel_rfl) (fun _ _ _ h => h) (Or.inr ⟨by rfl, rfl⟩) (by assumption) ?_
            simp only [Act.put, List.setIfInBounds_toArray, List.set_cons_zero, List.set_cons_succ]
            refine wpAnyH_take (i := 11) (oi := { dst := some 78, op := Op.binOp BinOp.add 40 (Operand.tmp 77) (Operand.const (Value.int IntKind.u64 1)) 40, type := 40, pos := "outright.go:117", after := #[{ on := 10, ground := Ground.data }, { on := 7, ground := Ground.guard }], guard := some (7, false) }) (v := undef) rfl (by kernel_rfl) (by kernel_rfl) (by kernel_rfl) (fun _ _ _ h => h) (Or.inr ⟨by rfl, rfl⟩) (by assumption) ?_
            simp only [Act.put, List.setIfInBounds_toArray, List.set_cons_zero, List.set_cons_succ]
            refine wpAnyH_take (i := 9) (oi := { dst := some 76, op := Op.call { callee := Callee.value (Operand.func 26), args := #[Operand.tmp 75], argTypes := #[28] }, type := 40, pos := "outright.go:117", after := #[{ on := 8, ground := Ground.data }, { on := 7, ground := Ground.chain }, { on := 7, ground := Ground.guard }], guard := some (7, false) }) (v := undef) rfl (by kernel_rfl) (by kernel_rfl) (by kernel_rfl) (fun _ _ _ h => h) (Or.inr ⟨by rfl, rfl⟩) (by assumption) ?_
            simp only [Act.put, List.setIfInBounds_toArray, List.set_cons_zero, List.set_cons_succ]
            refine wpAnyH_take (i := 12) (oi := { dst := some 79, op := Op.binOp BinOp.neq 40 (Operand.tmp 76) (Operand.tmp 78) 40, type := 4, pos := "outright.go:117", after := #[{ on := 9, ground := Ground.data }, { on := 11, ground := Ground.data }, { on := 7, ground := Ground.guard }], guard := some (7, false) }) (v := undef) rfl (by kernel_rfl) (by kernel_rfl) (by kernel_rfl) (fun _ _ _ h => h) (Or.inr ⟨by rfl, rfl⟩) (by assumption) ?_
            simp only [Act.put, List.setIfInBounds_toArray, List.set_cons_zero, List.set_cons_succ]
            refine wpAnyH_take (i := 13) (oi := { dst := some 80, op := Op.pick (Operand.tmp 74) (Operand.const (Value.bool true)) (Operand.tmp 79), type := 4, pos := "outright.go:117", after := #[{ on := 7, ground := Ground.data }, { on := 12, ground := Ground.data }, { on := 2, ground := Ground.guard }], guard := some (2, true) }) (v := undef) rfl (by kernel_rfl) (by kernel_rfl) (by kernel_rfl) (fun _ _ _ h => h) (Or.inr ⟨by rfl, rfl⟩) (by assumption) ?_
            simp only [Act.put, List.setIfInBounds_toArray, List.set_cons_zero, List.set_cons_succ]
            refine wpAnyH_take (i := 14) (oi := { dst := some 81, op := Op.move (Operand.tmp 80), type := 4, pos := "outright.go:117", after := #[{ on := 13, ground := Ground.data }, { on := 9, ground := Ground.chain }, { on := 2, ground := Ground.guard }], guard := some (2, true) }) (v := undef) rfl (by kernel_rfl) (by kernel_rfl) (by kernel_rfl) (fun _ _ _ h => h) (Or.inr ⟨by rfl, rfl⟩) (by assumption) ?_
            simp only [Act.put, List.setIfInBounds_toArray, List.set_cons_zero, List.set_cons_succ]
            refine wpAnyH_take (i := 15) (oi := { dst := some 82, op := Op.fieldAddr 42 (Operand.tmp 11) 1, type := 0, pos := "outright.go:117", after := #[{ on := 14, ground := Ground.guard }], guard := some (14, false) }) (v := undef) rfl (by kernel_rfl) (by kernel_rfl) (by kernel_rfl) (fun _ _ _ h => h) (Or.inr ⟨by rfl, rfl⟩) (by assumption) ?_
            simp only [Act.put, List.setIfInBounds_toArray, List.set_cons_zero, List.set_cons_succ]
            refine wpAnyH_take (i := 16) (oi := { dst := some 83, op := Op.load 3 (Operand.tmp 82), type := 3, pos := "outright.go:117", after := #[{ on := 15, ground := Ground.data }, { on := 14, ground := Ground.guard }], guard := some (14, false) }) (v := undef) rfl (by kernel_rfl) (by kernel_rfl) (by kernel_rfl) (fun _ _ _ h => h) (Or.inr ⟨by rfl, rfl⟩) (by assumption) ?_
            simp only [Act.put, List.setIfInBounds_toArray, List.set_cons_zero, List.set_cons_succ]
            refine wpAnyH_take (i := 17) (oi := { dst := some 84, op := Op.move (Operand.tmp 10), type := 63, pos := "outright.go:117", after := #[{ on := 14, ground := Ground.guard }], guard := some (14, false) }) (v := undef) rfl (by kernel_rfl) (by kernel_rfl) (by kernel_rfl) (fun _ _ _ h => h) (Or.inr ⟨by rfl, rfl⟩) (by assumption) ?_
            simp only [Act.put, List.setIfInBounds_toArray, List.set_cons_zero, List.set_cons_succ]
            refine wpAnyH_take (i := 18) (oi := { dst := some 85, op := Op.call { callee := Callee.value (Operand.func 28), args := #[Operand.tmp 84], argTypes := #[63] }, type := 3, pos := "outright.go:117", after := #[{ on := 17, ground := Ground.data }, { on := 14, ground := Ground.chain }, { on := 14, ground := Ground.guard }], guard := some (14, false) }) (v := undef) rfl (by kernel_rfl) (by kernel_rfl) (by kernel_rfl) (fun _ _ _ h => h) (Or.inr ⟨by rfl, rfl⟩) (by assumption) ?_
            simp only [Act.put, List.setIfInBounds_toArray, List.set_cons_zero, List.set_cons_succ]
            refine wpAnyH_take (i := 19) (oi := { dst := some 86, op := Op.binOp BinOp.neq 3 (Operand.tmp 83) (Operand.tmp 85) 3, type := 4, pos := "outright.go:117", after := #[{ on := 16, ground := Ground.data }, { on := 18, ground := Ground.data }, { on := 14, ground := Ground.guard }], guard := some (14, false) }) (v := undef) rfl (by kernel_rfl) (by kernel_rfl) (by kernel_rfl) (fun _ _ _ h => h) (Or.inr ⟨by rfl, rfl⟩) (by assumption) ?_
            simp only [Act.put, List.setIfInBounds_toArray, List.set_cons_zero, List.set_cons_succ]
            refine wpAnyH_take (i := 20) (oi := { dst := some 87, op := Op.pick (Operand.tmp 81) (Operand.const (Value.bool true)) (Operand.tmp 86), type := 4, pos := "outright.go:117", after := #[{ on := 14, ground := Ground.data }, { on := 19, ground := Ground.data }, { on := 2, ground := Ground.guard }], guard := some (2, true) }) (v := undef) rfl (by kernel_rfl) (by kernel_rfl) (by kernel_rfl) (fun _ _ _ h => h) (Or.inr ⟨by rfl, rfl⟩) (by assumption) ?_
            simp only [Act.put, List.setIfInBounds_toArray, List.set_cons_zero, List.set_cons_succ]
            refine wpAnyH_take (i := 21) (oi := { dst := some 88, op := Op.move (Operand.tmp 87), type := 4, pos := "outright.go:117", after := #[{ on := 20, ground := Ground.data }, { on := 18, ground := Ground.chain }, { on := 2, ground := Ground.guard }], guard := some (2, true) }) (v := undef) rfl (by kernel_rfl) (by kernel_rfl) (by kernel_rfl) (fun _ _ _ h => h) (Or.inr ⟨by rfl, rfl⟩) (by assumption) ?_
            simp only [Act.put, List.setIfInBounds_toArray, List.set_cons_zero, List.set_cons_succ]
            refine wpAnyH_take (i := 22) (oi := { dst := some 89, op := Op.fieldAddr 42 (Operand.tmp 11) 2, type := 0, pos := "outright.go:117", after := #[{ on := 21, ground := Ground.guard }], guard := some (21, false) }) (v := undef) rfl (by kernel_rfl) (by kernel_rfl) (by kernel_rfl) (fun _ _ _ h => h) (Or.inr ⟨by rfl, rfl⟩) (by assumption) ?_
            simp only [Act.put, List.setIfInBounds_toArray, List.set_cons_zero, List.set_cons_succ]
            refine wpAnyH_take (i := 23) (oi := { dst := some 90, op := Op.load 9 (Operand.tmp 89), type := 9, pos := "outright.go:117", after := #[{ on := 22, ground := Ground.data }, { on := 21, ground := Ground.guard }], guard := some (21, false) }) (v := undef) rfl (by kernel_rfl) (by kernel_rfl) (by kernel_rfl) (fun _ _ _ h => h) (Or.inr ⟨by rfl, rfl⟩) (by assumption) ?_
            simp only [Act.put, List.setIfInBounds_toArray, List.set_cons_zero, List.set_cons_succ]
            refine wpAnyH_take (i := 24) (oi := { dst := some 91, op := Op.fieldAddr 50 (Operand.tmp 8) 5, type := 0, pos := "outright.go:117", after := #[{ on := 21, ground := Ground.guard }], guard := some (21, false) }) (v := undef) rfl (by kernel_rfl) (by kernel_rfl) (by kernel_rfl) (fun _ _ _ h => h) (Or.inr ⟨by rfl, rfl⟩) (by assumption) ?_
            simp only [Act.put, List.setIfInBounds_toArray, List.set_cons_zero, List.set_cons_succ]
            refine wpAnyH_take (i := 25) (oi := { dst := some 92, op := Op.load 9 (Operand.tmp 91), type := 9, pos := "outright.go:117", after := #[{ on := 24, ground := Ground.data }, { on := 21, ground := Ground.guard }], guard := some (21, false) }) (v := undef) rfl (by kernel_rfl) (by kernel_rfl) (by kernel_rfl) (fun _ _ _ h => h) (Or.inr ⟨by rfl, rfl⟩) (by assumption) ?_
            simp only [Act.put, List.setIfInBounds_toArray, List.set_cons_zero, List.set_cons_succ]
            refine wpAnyH_take (i := 26) (oi := { dst := some 93, op := Op.binOp BinOp.neq 9 (Operand.tmp 90) (Operand.tmp 92) 9, type := 4, pos := "outright.go:117", after := #[{ on := 23, ground := Ground.data }, { on := 25, ground := Ground.data }, { on := 21, ground := Ground.guard }], guard := some (21, false) }) (v := undef) rfl (by kernel_rfl) (by kernel_rfl) (by kernel_rfl) (fun _ _ _ h => h) (Or.inr ⟨by rfl, rfl⟩) (by assumption) ?_
            simp only [Act.put, List.setIfInBounds_toArray, List.set_cons_zero, List.set_cons_succ]
            refine wpAnyH_take (i := 27) (oi := { dst := some 94, op := Op.pick (Operand.tmp 88) (Operand.const (Value.bool true)) (Operand.tmp 93), type := 4, pos := "outright.go:117", after := #[{ on := 21, ground := Ground.data }, { on := 26, ground := Ground.data }, { on := 2, ground := Ground.guard }], guard := some (2, true) }) (v := undef) rfl (by kernel_rfl) (by kernel_rfl) (by kernel_rfl) (fun _ _ _ h => h) (Or.inr ⟨by rfl, rfl⟩) (by assumption) ?_
            simp only [Act.put, List.setIfInBounds_toArray, List.set_cons_zero, List.set_cons_succ]
            refine wpAnyH_take (i := 28) (oi := { dst := some 95, op := Op.move (Operand.tmp 94), type := 4, pos := "outright.go:117", after := #[{ on := 27, ground := Ground.data }, { on := 21, ground := Ground.chain }, { on := 2, ground := Ground.guard }], guard := some (2, true) }) (v := undef) rfl (by kernel_rfl) (by kernel_rfl) (by kernel_rfl) (fun _ _ _ h => h) (Or.inr ⟨by rfl, rfl⟩) (by assumption) ?_
            simp only [Act.put, List.setIfInBounds_toArray, List.set_cons_zero, List.set_cons_succ]
            refine wpAnyH_take (i := 29) (oi := { dst := some 96, op := Op.fieldAddr 42 (Operand.tmp 11) 3, type := 0, pos := "outright.go:117", after := #[{ on := 28, ground := Ground.guard }], guard := some (28, false) }) (v := undef) rfl (by kernel_rfl) (by kernel_rfl) (by kernel_rfl) (fun _ _ _ h => h) (Or.inr ⟨by rfl, rfl⟩) (by assumption) ?_
            simp only [Act.put, List.setIfInBounds_toArray, List.set_cons_zero, List.set_cons_succ]
            refine wpAnyH_take (i := 30) (oi := { dst := some 97, op := Op.load 9 (Operand.tmp 96), type := 9, pos := "outright.go:117", after := #[{ on := 29, ground := Ground.data }, { on := 28, ground := Ground.guard }], guard := some (28, false) }) (v := undef) rfl (by kernel_rfl) (by kernel_rfl) (by kernel_rfl) (fun _ _ _ h => h) (Or.inr ⟨by rfl, rfl⟩) (by assumption) ?_
            simp only [Act.put, List.setIfInBounds_toArray, List.set_cons_zero, List.set_cons_succ]
            refine wpAnyH_take (i := 31) (oi := { dst := some 98, op := Op.fieldAddr 50 (Operand.tmp 8) 2, type := 0, pos := "outright.go:117", after := #[{ on := 28, ground := Ground.guard }], guard := some (28, false) }) (v := undef) rfl (by kernel_rfl) (by kernel_rfl) (by kernel_rfl) (fun _ _ _ h => h) (Or.inr ⟨by rfl, rfl⟩) (by assumption) ?_
            simp only [Act.put, List.setIfInBounds_toArray, List.set_cons_zero, List.set_cons_succ]
            refine wpAnyH_take (i := 32) (oi := { dst := some 99, op := Op.load 9 (Operand.tmp 98), type := 9, pos := "outright.go:117", after := #[{ on := 31, ground := Ground.data }, { on := 28, ground := Ground.guard }], guard := some (28, false) }) (v := undef) rfl (by kernel_rfl) (by kernel_rfl) (by kernel_rfl) (fun _ _ _ h => h) (Or.inr ⟨by rfl, rfl⟩) (by assumption) ?_
            simp only [Act.put, List.setIfInBounds_toArray, List.set_cons_zero, List.set_cons_succ]
            refine wpAnyH_take (i := 33) (oi := { dst := some 100, op := Op.binOp BinOp.neq 9 (Operand.tmp 97) (Operand.tmp 99) 9, type := 4, pos := "outright.go:117", after := #[{ on := 30, ground := Ground.data }, { on := 32, ground := Ground.data }, { on := 28, ground := Ground.guard }], guard := some (28, false) }) (v := undef) rfl (by kernel_rfl) (by kernel_rfl) (by kernel_rfl) (fun _ _ _ h => h) (Or.inr ⟨by rfl, rfl⟩) (by assumption) ?_
            simp only [Act.put, List.setIfInBounds_toArray, List.set_cons_zero, List.set_cons_succ]
            refine wpAnyH_take (i := 34) (oi := { dst := some 101, op := Op.pick (Operand.tmp 95) (Operand.const (Value.bool true)) (Operand.tmp 100), type := 4, pos := "outright.go:117", after := #[{ on := 28, ground := Ground.data }, { on := 33, ground := Ground.data }, { on := 2, ground := Ground.guard }], guard := some (2, true) }) (v := undef) rfl (by kernel_rfl) (by kernel_rfl) (by kernel_rfl) (fun _ _ _ h => h) (Or.inr ⟨by rfl, rfl⟩) (by assumption) ?_
            simp only [Act.put, List.setIfInBounds_toArray, List.set_cons_zero, List.set_cons_succ]
            refine wpAnyH_take (i := 35) (oi := { dst := some 102, op := Op.move (Operand.tmp 101), type := 4, pos := "outright.go:117", after := #[{ on := 34, ground := Ground.data }, { on := 28, ground := Ground.chain }, { on := 2, ground := Ground.guard }], guard := some (2, true) }) (v := undef) rfl (by kernel_rfl) (by kernel_rfl) (by kernel_rfl) (fun _ _ _ h => h) (Or.inr ⟨by rfl, rfl⟩) (by assumption) ?_
            simp only [Act.put, List.setIfInBounds_toArray, List.set_cons_zero, List.set_cons_succ]
            refine wpAnyH_take (i := 36) (oi := { dst := some 103, op := Op.fieldAddr 42 (Operand.tmp 11) 4, type := 0, pos := "outright.go:117", after := #[{ on := 35, ground := Ground.guard }], guard := some (35, false) }) (v := undef) rfl (by kernel_rfl) (by kernel_rfl) (by kernel_rfl) (fun _ _ _ h => h) (Or.inr ⟨by rfl, rfl⟩) (by assumption) ?_
            simp only [Act.put, List.setIfInBounds_toArray, List.set_cons_zero, List.set_cons_succ]
            refine wpAnyH_take (i := 37) (oi := { dst := some 104, op := Op.load 40 (Operand.tmp 103), type := 40, pos := "outright.go:117", after := #[{ on := 36, ground := Ground.data }, { on := 35, ground := Ground.guard }], guard := some (35, false) }) (v := undef) rfl (by kernel_rfl) (by kernel_rfl) (by kernel_rfl) (fun _ _ _ h => h) (Or.inr ⟨by rfl, rfl⟩) (by assumption) ?_
            simp only [Act.put, List.setIfInBounds_toArray, List.set_cons_zero, List.set_cons_succ]
            refine wpAnyH_take (i := 38) (oi := { dst := some 105, op := Op.fieldAddr 50 (Operand.tmp 8) 8, type := 0, pos := "outright.go:117", after := #[{ on := 35, ground := Ground.guard }], guard := some (35, false) }) (v := undef) rfl (by kernel_rfl) (by kernel_rfl) (by kernel_rfl) (fun _ _ _ h => h) (Or.inr ⟨by rfl, rfl⟩) (by assumption) ?_
            simp only [Act.put, List.setIfInBounds_toArray, List.set_cons_zero, List.set_cons_succ]
            refine wpAnyH_take (i := 39) (oi := { dst := some 106, op := Op.load 40 (Operand.tmp 105), type := 40, pos := "outright.go:117", after := #[{ on := 38, ground := Ground.data }, { on := 35, ground := Ground.guard }], guard := some (35, false) }) (v := undef) rfl (by kernel_rfl) (by kernel_rfl) (by kernel_rfl) (fun _ _ _ h => h) (Or.inr ⟨by rfl, rfl⟩) (by assumption) ?_
            simp only [Act.put, List.setIfInBounds_toArray, List.set_cons_zero, List.set_cons_succ]
            refine wpAnyH_take (i := 40) (oi := { dst := some 107, op := Op.binOp BinOp.neq 40 (Operand.tmp 104) (Operand.tmp 106) 40, type := 4, pos := "outright.go:117", after := #[{ on := 37, ground := Ground.data }, { on := 39, ground := Ground.data }, { on := 35, ground := Ground.guard }], guard := some (35, false) }) (v := undef) rfl (by kernel_rfl) (by kernel_rfl) (by kernel_rfl) (fun _ _ _ h => h) (Or.inr ⟨by rfl, rfl⟩) (by assumption) ?_
            simp only [Act.put, List.setIfInBounds_toArray, List.set_cons_zero, List.set_cons_succ]
            refine wpAnyH_take (i := 41) (oi := { dst := some 108, op := Op.pick (Operand.tmp 102) (Operand.const (Value.bool true)) (Operand.tmp 107), type := 4, pos := "outright.go:117", after := #[{ on := 35, ground := Ground.data }, { on := 40, ground := Ground.data }, { on := 2, ground := Ground.guard }], guard := some (2, true) }) (v := undef) rfl (by kernel_rfl) (by kernel_rfl) (by kernel_rfl) (fun _ _ _ h => h) (Or.inr ⟨by rfl, rfl⟩) (by assumption) ?_
            simp only [Act.put, List.setIfInBounds_toArray, List.set_cons_zero, List.set_cons_succ]
            refine wpAnyH_take (i := 42) (oi := { dst := some 109, op := Op.move (Operand.tmp 108), type := 4, pos := "outright.go:117", after := #[{ on := 41, ground := Ground.data }, { on := 35, ground := Ground.chain }, { on := 2, ground := Ground.guard }], guard := some (2, true) }) (v := undef) rfl (by kernel_rfl) (by kernel_rfl) (by kernel_rfl) (fun _ _ _ h => h) (Or.inr ⟨by rfl, rfl⟩) (by assumption) ?_
            simp only [Act.put, List.setIfInBounds_toArray, List.set_cons_zero, List.set_cons_succ]
            refine wpAnyH_take (i := 43) (oi := { dst := some 110, op := Op.fieldAddr 42 (Operand.tmp 11) 5, type := 0, pos := "outright.go:117", after := #[{ on := 42, ground := Ground.guard }], guard := some (42, false) }) (v := undef) rfl (by kernel_rfl) (by kernel_rfl) (by kernel_rfl) (fun _ _ _ h => h) (Or.inr ⟨by rfl, rfl⟩) (by assumption) ?_
            simp only [Act.put, List.setIfInBounds_toArray, List.set_cons_zero, List.set_cons_succ]
            refine wpAnyH_take (i := 44) (oi := { dst := some 111, op := Op.load 40 (Operand.tmp 110), type := 40, pos := "outright.go:117", after := #[{ on := 43, ground := Ground.data }, { on := 42, ground := Ground.guard }], guard := some (42, false) }) (v := undef) rfl (by kernel_rfl) (by kernel_rfl) (by kernel_rfl) (fun _ _ _ h => h) (Or.inr ⟨by rfl, rfl⟩) (by assumption) ?_
            simp only [Act.put, List.setIfInBounds_toArray, List.set_cons_zero, List.set_cons_succ]
            refine wpAnyH_take (i := 45) (oi := { dst := some 112, op := Op.binOp BinOp.neq 40 (Operand.tmp 111) (Operand.const (Value.int IntKind.u64 0)) 40, type := 4, pos := "outright.go:117", after := #[{ on := 44, ground := Ground.data }, { on := 42, ground := Ground.guard }], guard := some (42, false) }) (v := undef) rfl (by kernel_rfl) (by kernel_rfl) (by kernel_rfl) (fun _ _ _ h => h) (Or.inr ⟨by rfl, rfl⟩) (by assumption) ?_
            simp only [Act.put, List.setIfInBounds_toArray, List.set_cons_zero, List.set_cons_succ]
            refine wpAnyH_take (i := 46) (oi := { dst := some 113, op := Op.pick (Operand.tmp 109) (Operand.const (Value.bool true)) (Operand.tmp 112), type := 4, pos := "outright.go:117", after := #[{ on := 42, ground := Ground.data }, { on := 45, ground := Ground.data }, { on := 2, ground := Ground.guard }], guard := some (2, true) }) (v := undef) rfl (by kernel_rfl) (by kernel_rfl) (by kernel_rfl) (fun _ _ _ h => h) (Or.inr ⟨by rfl, rfl⟩) (by assumption) ?_
            simp only [Act.put, List.setIfInBounds_toArray, List.set_cons_zero, List.set_cons_succ]
            refine wpAnyH_take (i := 47) (oi := { dst := some 114, op := Op.move (Operand.tmp 113), type := 4, pos := "outright.go:117", after := #[{ on := 46, ground := Ground.data }, { on := 42, ground := Ground.chain }, { on := 2, ground := Ground.guard }], guard := some (2, true) }) (v := undef) rfl (by kernel_rfl) (by kernel_rfl) (by kernel_rfl) (fun _ _ _ h => h) (Or.inr ⟨by rfl, rfl⟩) (by assumption) ?_
            simp only [Act.put, List.setIfInBounds_toArray, List.set_cons_zero, List.set_cons_succ]
            refine wpAnyH_take (i := 48) (oi := { dst := some 115, op := Op.fieldAddr 42 (Operand.tmp 11) 6, type := 0, pos := "outright.go:117", after := #[{ on := 47, ground := Ground.guard }], guard := some (47, false) }) (v := undef) rfl (by kernel_rfl) (by kernel_rfl) (by kernel_rfl) (fun _ _ _ h => h) (Or.inr ⟨by rfl, rfl⟩) (by assumption) ?_
            simp only [Act.put, List.setIfInBounds_toArray, List.set_cons_zero, List.set_cons_succ]
            refine wpAnyH_take (i := 49) (oi := { dst := some 116, op := Op.load 40 (Operand.tmp 115), type := 40, pos := "outright.go:117", after := #[{ on := 48, ground := Ground.data }, { on := 47, ground := Ground.guard }], guard := some (47, false) }) (v := undef) rfl (by kernel_rfl) (by kernel_rfl) (by kernel_rfl) (fun _ _ _ h => h) (Or.inr ⟨by rfl, rfl⟩) (by assumption) ?_
            simp only [Act.put, List.setIfInBounds_toArray, List.set_cons_zero, List.set_cons_succ]
            refine wpAnyH_take (i := 50) (oi := { dst := some 117, op := Op.binOp BinOp.neq 40 (Operand.tmp 116) (Operand.const (Value.int IntKind.u64 0)) 40, type := 4, pos := "outright.go:117", after := #[{ on := 49, ground := Ground.data }, { on := 47, ground := Ground.guard }], guard := some (47, false) }) (v := undef) rfl (by kernel_rfl) (by kernel_rfl) (by kernel_rfl) (fun _ _ _ h => h) (Or.inr ⟨by rfl, rfl⟩) (by assumption) ?_
            simp only [Act.put, List.setIfInBounds_toArray, List.set_cons_zero, List.set_cons_succ]
            refine wpAnyH_take (i := 51) (oi := { dst := some 118, op := Op.pick (Operand.tmp 114) (Operand.const (Value.bool true)) (Operand.tmp 117), type := 4, pos := "outright.go:117", after := #[{ on := 47, ground := Ground.data }, { on := 50, ground := Ground.data }, { on := 2, ground := Ground.guard }], guard := some (2, true) }) (v := undef) rfl (by kernel_rfl) (by kernel_rfl) (by kernel_rfl) (fun _ _ _ h => h) (Or.inr ⟨by rfl, rfl⟩) (by assumption) ?_
            simp only [Act.put, List.setIfInBounds_toArray, List.set_cons_zero, List.set_cons_succ]
            refine wpAnyH_take (i := 52) (oi := { dst := some 119, op := Op.pick (Operand.tmp 69) (Operand.tmp 118) (Operand.const (Value.bool false)), type := 4, pos := "outright.go:117", after := #[{ on := 2, ground := Ground.data }, { on := 51, ground := Ground.data }], guard := none }) (v := .bool false) rfl (by kernel_rfl) (by kernel_rfl) (by kernel_rfl) (fun _ _ _ h => h) (Or.inl ⟨by rfl, ?_⟩) (by assumption) ?_
            · (intro w hSw; go_simp; first | done | (simp; done) | trace_state)
            simp only [Act.put, List.setIfInBounds_toArray, List.set_cons_zero, List.set_cons_succ]
            refine wpAnyH_take (i := 53) (oi := { dst := some 120, op := Op.move (Operand.tmp 119), type := 4, pos := "outright.go:117", after := #[{ on := 52, ground := Ground.data }, { on := 47, ground := Ground.chain }], guard := none }) (v := ?_) rfl (by kernel_rfl) (by kernel_rfl) (by kernel_rfl) (fun _ _ _ h => h) (Or.inl ⟨by rfl, ?_⟩) (by assumption) ?_
            rotate_left
            · (intro w hSw; go_simp; first | done | (with_reducible rfl))
            simp only [Act.put, List.setIfInBounds_toArray, List.set_cons_zero, List.set_cons_succ]
            refine wpAnyH_take (i := 54) (oi := { dst := some 121, op := Op.move (Operand.tmp 12), type := 29, pos := "outright.go:117", after := #[{ on := 53, ground := Ground.guard }], guard := some (53, false) }) (v := ?_) rfl (by kernel_rfl) (by kernel_rfl) (by kernel_rfl) (fun _ _ _ h => h) (Or.inl ⟨by rfl, ?_⟩) (by assumption) ?_
            rotate_left
            · (intro w hSw; go_simp; first | done | (with_reducible rfl))
            simp only [Act.put, List.setIfInBounds_toArray, List.set_cons_zero, List.set_cons_succ]
            refine wpAnyH_take (i := 55) (oi := { dst := some 122, op := Op.binOp BinOp.neq 3 (Operand.tmp 121) (Operand.const (Value.int IntKind.i64 0)) 3, type := 4, pos := "outright.go:117", after := #[{ on := 54, ground := Ground.data }, { on := 53, ground := Ground.guard }], guard := some (53, false) }) (v := .bool true) rfl (by kernel_rfl) (by kernel_rfl) (by kernel_rfl) (fun _ _ _ h => h) (Or.inl ⟨by rfl, ?_⟩) (by assumption) ?_
            · (intro w hSw; have f1 := HCZ.out; have f2 : (cz == 0) = false := (by simpa using f1); have f3 : decide (cz = 0) = false := decide_eq_false f1; go_simp; first | done | (simp; done) | trace_state)
            simp only [Act.put, List.setIfInBounds_toArray, List.set_cons_zero, List.set_cons_succ]
            refine wpAnyH_take (i := 56) (oi := { dst := some 123, op := Op.move (Operand.tmp 122), type := 4, pos := "outright.go:117", after := #[{ on := 55, ground := Ground.data }, { on := 53, ground := Ground.chain }, { on := 53, ground := Ground.guard }], guard := some (53, false) }) (v := ?_) rfl (by kernel_rfl) (by kernel_rfl) (by kernel_rfl) (fun _ _ _ h => h) (Or.inl ⟨by rfl, ?_⟩) (by assumption) ?_
            rotate_left
            · (intro w hSw; go_simp; first | done | (with_reducible rfl))
            simp only [Act.put, List.setIfInBounds_toArray, List.set_cons_zero, List.set_cons_succ]
            refine wpAnyH_take (i := 57) (oi := { dst := some 124, op := Op.move (Operand.tmp 5), type := 28, pos := "outright.go:117", after := #[{ on := 56, ground := Ground.guard }], guard := some (56, true) }) (v := ?_) rfl (by kernel_rfl) (by kernel_rfl) (by kernel_rfl) (fun _ _ _ h => h) (Or.inl ⟨by rfl, ?_⟩) (by assumption) ?_
            rotate_left
            · (intro w hSw; go_simp; first | done | (with_reducible rfl))
            simp only [Act.put, List.setIfInBounds_toArray, List.set_cons_zero, List.set_cons_succ]
            refine wpAnyH_take (i := 59) (oi := { dst := some 126, op := Op.move (Operand.tmp 9), type := 40, pos := "outright.go:117", after := #[{ on := 56, ground := Ground.guard }], guard := some (56, true) }) (v := ?_) rfl (by kernel_rfl) (by kernel_rfl) (by kernel_rfl) (fun _ _ _ h => h) (Or.inl ⟨by rfl, ?_⟩) (by assumption) ?_
            rotate_left
            · (intro w hSw; go_simp; first | done | (with_reducible rfl))
            simp only [Act.put, List.setIfInBounds_toArray, List.set_cons_zero, List.set_cons_succ]
            refine wpAnyH_ready (rs := [58]) (by kernel_rfl) (by simp) ?_
            refine AllReadyH.cons (o := { dst := some 125, op := Op.call { callee := Callee.value (Operand.func 26), args := #[Operand.tmp 124], argTypes := #[28] }, type := 40, pos := "outright.go:117", after := #[{ on := 57, ground := Ground.data }, { on := 56, ground := Ground.chain }, { on := 56, ground := Ground.guard }], guard := some (56, true) }) rfl (fun K hK => ?_) AllReadyH.nil
            go_simp
            refine (HNX.out _ hHeld).mono ?_
            rintro e wA ⟨rfl, hwA⟩
            subst hwA
            refine hK.out _ _ hHeld (fun hHeld => ?_)
            clear hK K
            refine wpAnyH_take (i := 60) (oi := { dst := some 127, op := Op.binOp BinOp.neq 40 (Operand.tmp 125) (Operand.tmp 126) 40, type := 4, pos := "outright.go:117", after := #[{ on := 58, ground := Ground.data }, { on := 59, ground := Ground.data }, { on := 56, ground := Ground.guard }], guard := some (56, true) }) (v := .bool false) rfl (by kernel_rfl) (by kernel_rfl) (by kernel_rfl) (fun _ _ _ h => h) (Or.inl ⟨by rfl, ?_⟩) (by assumption) ?_
            · (intro w hSw; go_simp; first | done | (simp; done) | trace_state)
            simp only [Act.put, List.setIfInBounds_toArray, List.set_cons_zero, List.set_cons_succ]
            refine wpAnyH_take (i := 61) (oi := { dst := some 128, op := Op.move (Operand.tmp 127), type := 4, pos := "outright.go:117", after := #[{ on := 60, ground := Ground.data }, { on := 58, ground := Ground.chain }, { on := 56, ground := Ground.guard }], guard := some (56, true) }) (v := ?_) rfl (by kernel_rfl) (by kernel_rfl) (by kernel_rfl) (fun _ _ _ h => h) (Or.inl ⟨by rfl, ?_⟩) (by assumption) ?_
            rotate_left
            · (intro w hSw; go_simp; first | done | (with_reducible rfl))
            simp only [Act.put, List.setIfInBounds_toArray, List.set_cons_zero, List.set_cons_succ]
            refine wpAnyH_take (i := 62) (oi := { dst := some 129, op := Op.load 42 (Operand.tmp 11), type := 42, pos := "outright.go:117", after := #[{ on := 61, ground := Ground.guard }], guard := some (61, false) }) (v := ?_) rfl (by kernel_rfl) (by kernel_rfl) (by kernel_rfl) (fun _ _ _ h => h) (Or.inl ⟨by rfl, ?_⟩) (by assumption) ?_
            rotate_left
            · (intro w hSw; obtain ⟨y0, y1, y2, y3, y4, y5, y6⟩ := HY.out _ hSw; go_simp; first | done | (with_reducible rfl))
            simp only [Act.put, List.setIfInBounds_toArray, List.set_cons_zero, List.set_cons_succ]
            refine wpAnyH_take (i := 63) (oi := { dst := some 130, op := Op.build 42 #[], type := 42, pos := "outright.go:117", after := #[{ on := 61, ground := Ground.guard }], guard := some (61, false) }) (v := .agg #[.int .u64 0, .int .i64 0, .string ⟨#[]⟩, .string ⟨#[]⟩, .int .u64 0, .int .u64 0, .int .u64 0]) rfl (by kernel_rfl) (by kernel_rfl) (by kernel_rfl) (fun _ _ _ h => h) (yieldsIf_build (by rfl) 42 _ rfl _ ?_) (by assumption) ?_
            · exact b42e _
            simp only [Act.put, List.setIfInBounds_toArray, List.set_cons_zero, List.set_cons_succ]
            refine wpAnyH_take (i := 64) (oi := { dst := some 131, op := Op.binOp BinOp.neq 42 (Operand.tmp 129) (Operand.tmp 130) 42, type := 4, pos := "outright.go:117", after := #[{ on := 62, ground := Ground.data }, { on := 63, ground := Ground.data }, { on := 61, ground := Ground.guard }], guard := some (61, false) }) (v := .bool false) rfl (by kernel_rfl) (by kernel_rfl) (by kernel_rfl) (fun _ _ _ h => h) (Or.inl ⟨by rfl, ?_⟩) (by assumption) ?_
            · (intro w hSw; have hE := eq_z w; go_simp; first | done | (simp; done) | trace_state)
            simp only [Act.put, List.setIfInBounds_toArray, List.set_cons_zero, List.set_cons_succ]
            refine wpAnyH_take (i := 65) (oi := { dst := some 132, op := Op.pick (Operand.tmp 128) (Operand.const (Value.bool true)) (Operand.tmp 131), type := 4, pos := "outright.go:117", after := #[{ on := 61, ground := Ground.data }, { on := 64, ground := Ground.data }, { on := 56, ground := Ground.guard }], guard := some (56, true) }) (v := .bool false) rfl (by kernel_rfl) (by kernel_rfl) (by kernel_rfl) (fun _ _ _ h => h) (Or.inl ⟨by rfl, ?_⟩) (by assumption) ?_
            · (intro w hSw; go_simp; first | done | (simp; done) | trace_state)
            simp only [Act.put, List.setIfInBounds_toArray, List.set_cons_zero, List.set_cons_succ]
            refine wpAnyH_take (i := 66) (oi := { dst := some 133, op := Op.move (Operand.tmp 132), type := 4, pos := "outright.go:117", after := #[{ on := 65, ground := Ground.data }, { on := 61, ground := Ground.chain }, { on := 56, ground := Ground.guard }], guard := some (56, true) }) (v := ?_) rfl (by kernel_rfl) (by kernel_rfl) (by kernel_rfl) (fun _ _ _ h => h) (Or.inl ⟨by rfl, ?_⟩) (by assumption) ?_
            rotate_left
            · (intro w hSw; go_simp; first | done | (with_reducible rfl))
            simp only [Act.put, List.setIfInBounds_toArray, List.set_cons_zero, List.set_cons_succ]
            refine wpAnyH_take (i := 67) (oi := { dst := some 134, op := Op.move (Operand.tmp 5), type := 28, pos := "outright.go:117", after := #[{ on := 66, ground := Ground.guard }], guard := some (66, false) }) (v := ?_) rfl (by kernel_rfl) (by kernel_rfl) (by kernel_rfl) (fun _ _ _ h => h) (Or.inl ⟨by rfl, ?_⟩) (by assumption) ?_
            rotate_left
            · (intro w hSw; go_simp; first | done | (with_reducible rfl))
            simp only [Act.put, List.setIfInBounds_toArray, List.set_cons_zero, List.set_cons_succ]
            refine wpAnyH_take (i := 69) (oi := { dst := some 136, op := Op.move (Operand.tmp 10), type := 63, pos := "outright.go:117", after := #[{ on := 66, ground := Ground.guard }], guard := some (66, false) }) (v := ?_) rfl (by kernel_rfl) (by kernel_rfl) (by kernel_rfl) (fun _ _ _ h => h) (Or.inl ⟨by rfl, ?_⟩) (by assumption) ?_
            rotate_left
            · (intro w hSw; go_simp; first | done | (with_reducible rfl))
            simp only [Act.put, List.setIfInBounds_toArray, List.set_cons_zero, List.set_cons_succ]
            refine wpAnyH_ready (rs := [68]) (by kernel_rfl) (by simp) ?_
            refine AllReadyH.cons (o := { dst := some 135, op := Op.call { callee := Callee.value (Operand.func 27), args := #[Operand.tmp 134], argTypes := #[28] }, type := 63, pos := "outright.go:117", after := #[{ on := 67, ground := Ground.data }, { on := 66, ground := Ground.chain }, { on := 66, ground := Ground.guard }], guard := some (66, false) }) rfl (fun K hK => ?_) AllReadyH.nil
            go_simp
            refine (HLV.out _ hHeld).mono ?_
            rintro e wA ⟨v2, rfl, SA⟩
            have HV2 : Keep (Lvr wA v2 X.S) := ⟨lvr_of (SA.rowGet k0m)⟩
            have SA' := bk1 [_] SA.tail
            refine hK.out _ _ SA' (fun hHeld => ?_)
            clear hK K SA SA'
            refine wpAnyH_ready (rs := [70]) (by kernel_rfl) (by simp) ?_
            refine AllReadyH.cons (o := { dst := some 137, op := Op.call { callee := Callee.value (Operand.func 29), args := #[Operand.tmp 135, Operand.tmp 136], argTypes := #[63, 63] }, type := 4, pos := "outright.go:117", after := #[{ on := 68, ground := Ground.data }, { on := 69, ground := Ground.data }, { on := 68, ground := Ground.chain }, { on := 66, ground := Ground.guard }], guard := some (66, false) }) rfl (fun K hK => ?_) AllReadyH.nil
            go_simp
            have hsm := sam_c wA v2 (.slice a n cap) X.S HV2.out (lvr_n HNS.out (hHeld.rowGet k2m)) (by have := HLE.out; have := HNS.out; omega)
            refine hsm.mono ?_
            rintro e wB ⟨rfl, gB⟩
            have hHeld := hHeld.grown gB
            refine hK.out _ _ hHeld (fun hHeld => ?_)
            clear hK K hsm gB
            refine wpAnyH_take (i := 71) (oi := { dst := some 138, op := Op.unOp UnOp.not 4 (Operand.tmp 137), type := 4, pos := "outright.go:117", after := #[{ on := 70, ground := Ground.data }, { on := 66, ground := Ground.guard }], guard := some (66, false) }) (v := .bool false) rfl (by kernel_rfl) (by kernel_rfl) (by kernel_rfl) (fun _ _ _ h => h) (Or.inl ⟨by rfl, ?_⟩) (by assumption) ?_
            · (intro w hSw; go_simp; first | done | (simp; done) | trace_state)
            simp only [Act.put, List.setIfInBounds_toArray, List.set_cons_zero, List.set_cons_succ]
            refine wpAnyH_take (i := 72) (oi := { dst := some 139, op := Op.pick (Operand.tmp 133) (Operand.const (Value.bool true)) (Operand.tmp 138), type := 4, pos := "outright.go:117", after := #[{ on := 66, ground := Ground.data }, { on := 71, ground := Ground.data }, { on := 56, ground := Ground.guard }], guard := some (56, true) }) (v := .bool false) rfl (by kernel_rfl) (by kernel_rfl) (by kernel_rfl) (fun _ _ _ h => h) (Or.inl ⟨by rfl, ?_⟩) (by assumption) ?_
            · (intro w hSw; go_simp; first | done | (simp; done) | trace_state)
            simp only [Act.put, List.setIfInBounds_toArray, List.set_cons_zero, List.set_cons_succ]
            refine wpAnyH_take (i := 73) (oi := { dst := some 140, op := Op.pick (Operand.tmp 123) (Operand.tmp 139) (Operand.const (Value.bool false)), type := 4, pos := "outright.go:117", after := #[{ on := 56, ground := Ground.data }, { on := 72, ground := Ground.data }, { on := 53, ground := Ground.guard }], guard := some (53, false) }) (v := .bool false) rfl (by kernel_rfl) (by kernel_rfl) (by kernel_rfl) (fun _ _ _ h => h) (Or.inl ⟨by rfl, ?_⟩) (by assumption) ?_
            · (intro w hSw; go_simp; first | done | (simp; done) | trace_state)
            simp only [Act.put, List.setIfInBounds_toArray, List.set_cons_zero, List.set_cons_succ]
            refine wpAnyH_take (i := 74) (oi := { dst := some 141, op := Op.pick (Operand.tmp 120) (Operand.const (Value.bool true)) (Operand.tmp 140), type := 4, pos := "outright.go:117", after := #[{ on := 53, ground := Ground.data }, { on := 73, ground := Ground.data }], guard := none }) (v := .bool false) rfl (by kernel_rfl) (by kernel_rfl) (by kernel_rfl) (fun _ _ _ h => h) (Or.inl ⟨by rfl, ?_⟩) (by assumption) ?_
            · (intro w hSw; go_simp; first | done | (simp; done) | trace_state)
            simp only [Act.put, List.setIfInBounds_toArray, List.set_cons_zero, List.set_cons_succ]
            refine wpAnyH_done (by kernel_rfl) ?_ _
            have S8 : Sep w _ (lobA la X :: boxA b11 z7 42 :: rowV 42 7 (.slice a n cap) n (X.S.flatMap lvc) :: boxA ob (opv x) 50 :: boxA cb cl 24 :: []) := hHeld.swap
            clear HY HNX HLV HCZ
            have hB := bounded_c w _ _ la X cl S8 HX'.out.1 HX'.out.2.1 HX'.out.2.2.1 HNK.out.1 (HC0.out X HX'.out.2.2.2.2) (fun W l h => lives_c w W l la X h HX'.out.1 HX'.out.2.1)
            have RNG := Keep.mk (S8.boxGet k4m).range
            clear S8 HC0
            go_wp2_with (first
              | (show wpList _ _ _ ({ dst := _, op := Op.load 24 _, type := _, pos := _, after := _, guard := _ } :: _) _ _
                 refine wpList_load_mid rfl 24 _ rfl _ _ rfl _ _ RNG.out hdu hdr (by rw [HCL.out.1]; exact info24) ?_))
            refine hB.mono ?_
            rintro ex w9 ⟨rfl, S9⟩
            have HSX : Keep (Sep w w9 [lobA la X, boxA cb cl 24]) := ⟨Sep.dropM [lobA la X] [boxA b11 z7 42, rowV 42 7 (.slice a n cap) n (X.S.flatMap lvc), boxA ob (opv x) 50] S9⟩
            clear hB S9 RNG
            go_wp2_with fail
            go_roundw
            case rel => exact ⟨i + 1, X, by have := HI.out; omega, by have := HI.out; omega, rfl, HSX, HX'⟩
            case measure => simp [intOf]; have := HI.out; omega
        · have n1 : decide (x.kd = 1) = false := decide_eq_false e1
          have b1 : (x.kd == 1) = false := by simpa using e1
          have hAc := acts_c w w4 _ la X x HS4.out.swap hX.out.1 hX.out.2.1 HNK.out.1 HNK.out.2.1 HXO.out HXN.out
          have RR := Keep.mk (HS4.out.boxGet k2m).range
          have HX' : Keep (LbOk (actX X x) ∧ Up (actX X x) ∧ Wl (actX X x) ∧ (actX X x).next ≤ i + 1 + 1 ∧ ((actX X x).most : Int) = c.ses) := ⟨hX.out.1.act HXO.out HXN.out, hX.out.2.1.act hX.out.1, hX.out.2.2.1.act hX.out.1 x, by have := hX.out.2.2.2.1; rw [(act_keeps e1).1]; omega, by rw [act_most]; exact hX.out.2.2.2.2⟩
          have HNN : Keep ((actX X x).next = X.next) := ⟨(act_keeps e1).1⟩
          generalize actX X x = X' at hAc HX' HNN
          clear HS4
          go_wp2_with (first
            | (show wpList _ _ _ ({ dst := _, op := Op.load 50 _, type := _, pos := _, after := _, guard := _ } :: _) _ _
               refine wpList_load_mid rfl 50 _ rfl _ _ rfl _ _ RR.out hdu5 hdr5 (by exact info50) ?_))
          refine hAc.mono ?_
          rintro ex w5 ⟨rfl, S5⟩
          have hNx := next_c w w5 _ la X' S5
          rw [HNN.out] at hNx
          have HS5 := Keep.mk S5
          clear hAc S5 RR d0
          go_wp2_with fail
          refine hNx.mono ?_
          rintro ex w6 ⟨rfl, hw6⟩
          subst hw6
          have S8 : Sep w w6 (lobA la X' :: rowV 42 7 (.slice a n cap) n (X.S.flatMap lvc) :: boxA ob (opv x) 50 :: boxA cb cl 24 :: []) := HS5.out
          clear hNx HS5
          have hB := bounded_c w _ _ la X' cl S8 HX'.out.1 HX'.out.2.1 HX'.out.2.2.1 HNK.out.1 (HC0.out X' HX'.out.2.2.2.2) (fun W l h => lives_c w W l la X' h HX'.out.1 HX'.out.2.1)
          have RNG := Keep.mk (S8.boxGet k3m).range
          clear S8 HC0
          go_wp2_with (first
            | (show wpList _ _ _ ({ dst := _, op := Op.load 24 _, type := _, pos := _, after := _, guard := _ } :: _) _ _
               refine wpList_load_mid rfl 24 _ rfl _ _ rfl _ _ RNG.out hdu hdr (by rw [HCL.out.1]; exact info24) ?_))
          refine hB.mono ?_
          rintro ex w9 ⟨rfl, S9⟩
          have HSX : Keep (Sep w w9 [lobA la X', boxA cb cl 24]) := ⟨Sep.dropM [lobA la X'] [rowV 42 7 (.slice a n cap) n (X.S.flatMap lvc), boxA ob (opv x) 50] S9⟩
          clear hB S9 RNG
          go_wp2_with fail
          go_roundw
          case rel => exact ⟨i + 1, X', by have := HI.out; omega, by have := HI.out; omega, rfl, HSX, HX'⟩
          case measure => simp [intOf]; have := HI.out; omega
      · by_cases hin : i < nL
        · have hi1 : (i : Int) < (nL : Nat) := by omega
          have hi2 : ¬ (i : Int) < 200 := by omega
          have HG := Keep.mk hS.out.g
          clear hS
          go_wp2_with fail
          go_ret
          exact ⟨rfl, HG.out⟩
        · have hi1 : ¬ (i : Int) < (nL : Nat) := by omega
          have HG := Keep.mk hS.out.g
          clear hS
          go_wp2_with fail
          go_ret
          exact ⟨rfl, HG.out⟩
end Go.Proofs.YtplcicbpkbamnaaDoor.Lo

