import Derived.Test.YtplcicbpkbamnaaDoorX25
import Derived.BigQuiet
/- LobbyOnce's walk -/
namespace Go.Proofs.YtplcicbpkbamnaaDoor.Lo
open Go Go.RowKit Go.Maps

set_option maxRecDepth 100000 in
set_option maxHeartbeats 32000000 in
theorem once_c (w : World) (c : Cf) (v sv : Value) (L : List Opr) (hn : Na.Kc w) (hk : Kc w) (hs : SrO w sv L) :
    Calls Tryd.prog 5 #[.agg (cfv c v), sv] w fun e w' => e = .returned (.bool true) ∧ w.grownBy w' none := by
  obtain ⟨du, hdu, hdr⟩ := under24
  obtain ⟨du5, hdu5, hdr5⟩ := under50
  obtain ⟨sa, scap, hsv, _⟩ := hs.o
  obtain ⟨n, hnL⟩ : ∃ n, L.length = n := ⟨_, rfl⟩
  rw [hnL] at hsv
  subst hsv
  have S2 := (Sep.nil w).newBox (cfv c v) 24
  obtain ⟨W1, hW1⟩ : ∃ W1, w.alloc (.cells (cfv c v) 24) = W1 := ⟨_, rfl⟩
  obtain ⟨cb, hcb⟩ : ∃ cb, w.heap.size = cb := ⟨_, rfl⟩
  rw [hW1, hcb] at S2
  have HS2 : Keep (Sep w W1 [boxA cb (cfv c v).toList 24]) := ⟨S2⟩
  have HKK : Keep (∀ W l, Sep w W l → Na.Kc W ∧ Kc W) := ⟨fun W l h => ⟨hn.kept h.g, hk.kept h.g (by simp)⟩⟩
  have HNK := Keep.mk (And.intro hn (And.intro hk (And.intro hs hnL)))
  have hA := alive_c W1 (HKK.out _ _ S2).1 (HKK.out _ _ S2).2
  have HCV : Keep ((cfv c v).toList.length = 13 ∧ ∀ u, (cfv c v).toList.set 12 u = (cfv c u).toList) := ⟨rfl, fun _ => rfl⟩
  generalize hcv : cfv c v = cv at hW1 HS2 HCV ⊢
  clear hcv S2 hn hk hs
  go_enter Tryd.func5, Tryd.ntmps5
  go_wp2_with fail
  refine hA.mono ?_
  rintro e w3 ⟨rfl, g3⟩
  have S3 := HS2.out.grown g3
  have hP := plain_s w3
  have HS3 := Keep.mk S3
  clear hA g3 HS2 hW1 hcb S3
  go_wp2_with fail
  refine hP.mono ?_
  rintro e w4 ⟨ab, rfl, S4'⟩
  have S4 : Sep w w4 (boxA ab pcs 27 :: boxA cb cv.toList 24 :: []) := HS3.out.ovr S4'
  clear hP S4' HS3
  have hfl := fld24 ab w4
  rw [show cfv pc (.slice (some ⟨ab, 0, none⟩) 3 3) = #[iv 2, iv 0, iv 8, iv 2, iv 0, iv 0, iv 3, iv 0, iv 0, iv 0, .string ⟨#[]⟩, .string ⟨#[]⟩, (.slice (some ⟨ab, 0, none⟩) 3 3)] from rfl]
  obtain ⟨y, hy⟩ : ∃ y, cv.toList[12]? = some y := ⟨_, List.getElem?_eq_getElem (by rw [HCV.out.1]; omega)⟩
  have c12 : w4.cell? ⟨cb, 12, none⟩ = some y := (S4.boxGet k1m).cellv 12 _ hy
  have f12 : w4.frozen? ⟨cb, 12, none⟩ = false := (S4.boxGet k1m).frozen 12
  have S6 := S4.swap.boxPut 12 (.slice (some ⟨ab, 0, none⟩) 3 3)
  rw [HCV.out.2] at S6
  obtain ⟨w6, hw6⟩ : ∃ w6, w4.setCell ⟨cb, 12, none⟩ (.slice (some ⟨ab, 0, none⟩) 3 3) = w6 := ⟨_, rfl⟩
  rw [hw6] at S6
  clear S4 hy HCV
  have RNG := Keep.mk (S6.boxGet k0m).range
  have hN1 : Calls Tryd.prog 9 #[.agg (cfv c (.slice (some ⟨ab, 0, none⟩) 3 3))] w6 (NwR w6 (newL c pP)) := new_c w6 c (.slice (some ⟨ab, 0, none⟩) 3 3) pP (pcs_in (S6.boxGet k1m)) (HKK.out _ _ S6).1
  have HCL : Keep ((cfv c (.slice (some ⟨ab, 0, none⟩) 3 3)).toList.length = 13 ∧ (cfv c (.slice (some ⟨ab, 0, none⟩) 3 3)).toList[2]? = some (iv c.rate) ∧ (cfv c (.slice (some ⟨ab, 0, none⟩) 3 3)).toList[3]? = some (iv c.burst)) := ⟨rfl, rfl, rfl⟩
  have hcl : (cfv c (.slice (some ⟨ab, 0, none⟩) 3 3)) = (cfv c (.slice (some ⟨ab, 0, none⟩) 3 3)).toList.toArray := rfl
  rw [hcl] at hN1
  generalize (cfv c (.slice (some ⟨ab, 0, none⟩) 3 3)).toList = cl at hN1 RNG HCL S6
  have HS6 := Keep.mk S6
  clear S6 hcl
  cases hX : newL c pP with
  | none =>
    rw [hX] at hN1
    go_wp2_with (first
      | (show wpList _ _ _ ({ dst := _, op := Op.load 24 _, type := _, pos := _, after := _, guard := _ } :: _) _ _
         refine wpList_load_mid rfl 24 _ rfl _ _ rfl _ _ RNG.out hdu hdr (by rw [HCL.out.1]; exact info24) ?_))
    refine hN1.mono ?_
    rintro e w7 ⟨rfl, g7⟩
    have HG := Keep.mk (HS6.out.g.trans g7)
    clear hN1 g7 HS6
    go_wp2_with fail
    go_ret
    exact ⟨rfl, HG.out⟩
  | some X =>
    rw [hX] at hN1
    obtain ⟨ok, hnx, ⟨X1, e1, ok1, X2, e2, ok2, hn2, e, X3, jc, js, je, e3, hO⟩, hbu⟩ := once_start hX
    have HO := Keep.mk hO
    have HX1 := Keep.mk (And.intro ok1 (And.intro ok2 (And.intro hn2 (And.intro jc (And.intro js (And.intro je (And.intro e2 e3)))))))
    have HBU := Keep.mk hbu
    clear hO ok1 ok2 hn2 jc js je e2 e3 hbu
    go_wp2_with (first
      | (show wpList _ _ _ ({ dst := _, op := Op.load 24 _, type := _, pos := _, after := _, guard := _ } :: _) _ _
         refine wpList_load_mid rfl 24 _ rfl _ _ rfl _ _ RNG.out hdu hdr (by rw [HCL.out.1]; exact info24) ?_))
    refine hN1.mono ?_
    rintro ex w7 ⟨la, rfl, S7'⟩
    have S7 : Sep w w7 [lobA la X, boxA cb cl 24] := by
      have h : Sep w w7 (lobA la X :: boxA cb cl 24 :: boxA ab pcs 27 :: []) := HS6.out.ovr S7'
      exact h.third.tail
    have hJ := join_c w w7 _ la X sx sn ss scy 0 S7 ok (HKK.out _ _ S7).1 HNK.out.2.1 (by decide) (by decide) (by decide) (by decide) (by rw [hnx]; decide)
    rw [e1] at hJ
    clear S7 S7' hN1 HS6 RNG hX e1 ok hnx
    go_wp2_with fail
    refine hJ.mono ?_
    rintro ex w8 ⟨rfl, S8⟩
    have hLv := leave_c w w8 _ la X1 1 S8 HX1.out.1 (by decide)
    rw [HX1.out.2.2.2.2.2.2.1] at hLv
    clear hJ S8
    go_wp2_with fail
    refine hLv.mono ?_
    rintro ex w9 ⟨rfl, S9⟩
    have hJ := join_c w w9 _ la X2 sx sn ss sann 0 S9 HX1.out.2.1 (HKK.out _ _ S9).1 HNK.out.2.1 (by decide) (by decide) (by decide) (by decide) (by rw [HX1.out.2.2.1]; decide)
    rw [HX1.out.2.2.2.2.2.2.2, HX1.out.2.2.2.2.1, HX1.out.2.2.2.1] at hJ
    simp only [Option.map_some, Option.getD_some] at hJ
    clear hLv S9
    go_wp2_with fail
    refine hJ.mono ?_
    rintro ex w10 ⟨rfl, S10⟩
    have HS10 := Keep.mk S10
    clear hJ S10
    go_wp2_with (first
      | (show wpList _ _ _ ({ dst := _, op := Op.store 42 _ _, type := _, pos := _, after := _, guard := _ } :: _) _ _
         refine store_new _ (lvc e) 42 rfl rfl rfl rfl rfl (by exact info42) (lvc_one _) ?_))
    intro w11 hS11 g11
    have S11 := hS11 w _ HS10.out
    generalize w10.heap.size = xb at S11 ⊢
    have d0 : w11.cell? ⟨xb, 0, none⟩ = some (.int .u64 2) := by
      have h := (S11.boxGet k0m).cellv 0 (uv e.num) rfl
      rw [HX1.out.2.2.2.2.2.1] at h
      exact h
    have hmm := @run_makeMap Tryd.prog
    have HS12 : Keep (Sep w (w11.alloc (.map #[] 0)) [lobA la X3, boxA cb cl 24, bmA w11.heap.size []]) := ⟨by
      have h := (S11.tail).bmNew
      exact (h.third).third⟩
    clear hS11 g11 HS10 S11
    go_wp2_with fail
    clear hmm d0
    generalize w11.heap.size = mb at HS12 ⊢
    go_loopw [10, 11, 12] (fun u10 u11 u12 wr => ∃ (i R C : Nat) (X : Lb) (s : Se) (M : List Nat), i ≤ n ∧ i ≤ 300 ∧ u10 = iv R ∧ u11 = iv C ∧ u12 = iv i ∧ Keep (R ≤ i ∧ C ≤ i ∧ M.length ≤ i) ∧ Keep (Sep w wr [lobA la X, boxA cb cl 24, bmA mb M]) ∧ Keep (On c.rate c.burst X s M R C)) (fun _ _ u _ => (300 - intOf u).toNat)
    case atStart => exact ⟨0, 0, 0, X3, e, [], by omega, by omega, rfl, rfl, rfl, ⟨by omega, by omega, by simp⟩, HS12, HO⟩
    case round =>
      clear HS12 HO HX1
      obtain ⟨i, R, C, X, s, M, hi, h300, rfl, rfl, rfl, HRC, hS, hO⟩ := hrel
      by_cases hlt : i < n ∧ i < 300
      · obtain ⟨hl1, hl2⟩ := hlt
        have hSR := HNK.out.2.2.1.kept hS.out.g
        obtain ⟨a', cap', e, hq⟩ := hSR.o
        rw [HNK.out.2.2.2] at e hq
        injection e with e1' e2' e3'
        obtain ⟨g, og, hg, hq⟩ := hq (by omega)
        rw [← e1'] at hg
        subst hg
        obtain ⟨x, hx⟩ : ∃ x, L[i]? = some x := ⟨_, List.getElem?_eq_getElem (by rw [HNK.out.2.2.2]; exact hl1)⟩
        have HRG := Keep.mk (hq i x hx)
        have HXO := Keep.mk (hSR.s x (List.mem_of_getElem? hx))
        have hi0 : (0 : Int) ≤ (i : Int) := by omega
        have hi1 : (i : Int) < (n : Nat) := by omega
        have hi2 : (i : Int) < 300 := by omega
        have hti : ((i : Nat) : Int).toNat = i := by omega
        have hwi : IntKind.i64.wrap ((i : Int) + 1) = ((i + 1 : Nat) : Int) := by rw [wi _ (by omega) (by omega)]; omega
        have hwR : IntKind.i64.wrap ((R : Int) + 1) = ((R + 1 : Nat) : Int) := by have := HRC.out; rw [wi _ (by omega) (by omega)]; omega
        have hwC : IntKind.i64.wrap ((C : Int) + 1) = ((C + 1 : Nat) : Int) := by have := HRC.out; rw [wi _ (by omega) (by omega)]; omega
        have HI : Keep (i < n ∧ i < 300) := ⟨hl1, hl2⟩
        clear hSR hq e1' e2' e3' hx hl1 hl2 hi h300
        go_wp2_with (first
          | (show wpList _ _ _ ({ dst := _, op := Op.load 50 _, type := _, pos := _, after := _, guard := _ } :: _) _ _
             refine wpList_load_mid rfl 50 _ rfl _ _ rfl _ _ HRG.out hdu5 hdr5 (by exact info50) ?_)
          | (show wpList _ _ _ ({ dst := _, op := Op.store 50 _ _, type := _, pos := _, after := _, guard := _ } :: _) _ _
             refine store_new _ (opv x) 50 rfl rfl rfl rfl rfl (by exact info50) (opv_one1 x) ?_))
        intro w2 hS2 g2
        have S2 := hS2 w _ hS.out
        generalize wr.heap.size = ob at S2 ⊢
        have d0 : w2.cell? ⟨ob, 0, none⟩ = some (iv x.kd) := (S2.boxGet k0m).cellv 0 _ rfl
        have HS2 := Keep.mk S2
        clear hS2 g2 S2 hS HRG
        by_cases e7 : x.kd = 7
        · rw [e7] at d0
          have HDB : Keep (∀ W l, Sep w W (boxA ob (opv x) 50 :: l) → W.cell? ⟨ob, 0, none⟩ = some (.int .i64 7)) := ⟨fun W l h => by have h := (h.boxGet k0m).cellv 0 _ rfl; rw [e7] at h; exact h⟩
          have hR1 := refill_c w w2 _ la X HS2.out.swap hO.out.ok
          clear HS2
          go_wp2_with fail
          refine hR1.mono ?_
          rintro ex w3 ⟨rfl, S3⟩
          have d0 := HDB.out _ _ S3.swap
          have HSX : Keep (Sep w w3 [lobA la (refX X), boxA cb cl 24, bmA mb M]) := ⟨S3.swap.tail⟩
          have HOX := Keep.mk hO.out.refill
          have HRX : Keep (R + 1 ≤ i + 1 ∧ C ≤ i + 1 ∧ M.length ≤ i + 1) := ⟨by have := HRC.out; omega⟩
          clear hR1 S3 HDB HRC hwC
          go_wp2_with fail
          go_roundw
          case rel => exact ⟨i + 1, R + 1, C, _, _, M, by have := HI.out; omega, by have := HI.out; omega, rfl, rfl, rfl, HRX, HSX, HOX⟩
          case measure => simp [intOf]; have := HI.out; omega
        · by_cases e2 : x.kd = 2
          · rw [e2] at d0
            have hF := fnd_c w w2 _ la X 2 sx HS2.out.swap hO.out.ok (by decide)
            rw [hO.out.fnd] at hF
            clear HS2
            go_wp2_with fail
            refine hF.mono ?_
            rintro ex w3 ⟨rfl, S3⟩
            have HS3 := Keep.mk S3
            clear hF S3
            go_wp2_with (first
              | (show wpList _ _ _ ({ dst := _, op := Op.store 42 _ _, type := _, pos := _, after := _, guard := _ } :: _) _ _
                 refine store_new _ (lvc s) 42 rfl rfl rfl rfl rfl (by exact info42) (lvc_one _) ?_))
            intro w4 hS4 g4
            have S4 := hS4 w _ HS3.out
            generalize w3.heap.size = b14 at S4 ⊢
            have HS4 : Keep (Sep w w4 [lobA la X, boxA b14 (lvc s) 42, boxA ob (opv x) 50, boxA cb cl 24, bmA mb M]) := ⟨S4.swap⟩
            have hT := tok_c w w4 _ la X 2 HS4.out hO.out.ok (by decide)
            rw [hO.out.tok] at hT
            obtain ⟨tb, htb⟩ : ∃ tb, decide (16 ≤ s.y) = tb := ⟨_, rfl⟩
            rw [htb] at hT
            have HTB := Keep.mk htb
            clear hS4 g4 S4 HS3 htb d0
            go_wp2_with fail
            refine hT.mono ?_
            rintro ex w5 ⟨rfl, hw5⟩
            subst hw5
            have d7 : w5.cell? ⟨ob, 7, none⟩ = some (uv x.seq) := (HS4.out.boxGet k2m).cellv 7 _ rfl
            have hC := chk_c w w5 _ la X 2 x.seq HS4.out hO.out.ok (by decide) HXO.out.seq
            rw [hO.out.chk] at hC
            obtain ⟨fr, hfr⟩ : ∃ fr, ((Wi.chk s.wh s.wb x.seq : Nat) : Int) = fr := ⟨_, rfl⟩
            rw [hfr] at hC
            have HFR := Keep.mk hfr
            clear hT hfr HS4
            go_wp2_with fail
            refine hC.mono ?_
            rintro ex w6 ⟨rfl, S6⟩
            have d7 : w6.cell? ⟨ob, 7, none⟩ = some (uv x.seq) := (S6.boxGet k2m).cellv 7 _ rfl
            have d8 : w6.cell? ⟨ob, 8, none⟩ = some (uv x.tick) := (S6.boxGet k2m).cellv 8 _ rfl
            have d9 : w6.cell? ⟨ob, 9, none⟩ = some (.bool x.yes) := (S6.boxGet k2m).cellv 9 _ rfl
            have hAc := acp_c w w6 _ la X 2 x.seq x.tick x.yes S6 hO.out.ok (by decide) HXO.out.seq
            obtain ⟨gr, hgr⟩ : ∃ gr, acpS X 2 x.seq x.yes = gr := ⟨_, rfl⟩
            obtain ⟨X', hX'⟩ : ∃ X', acpX X 2 x.seq x.yes x.tick = X' := ⟨_, rfl⟩
            rw [hgr, hX'] at hAc
            obtain ⟨s', M', C', hO', HC1, HC2⟩ : ∃ s' M' C', On c.rate c.burst X' s' M' R C' ∧ Keep (gr = accC s x.seq x.yes) ∧ Keep ((accC s x.seq x.yes ≠ 0 ∧ s' = s ∧ M' = M ∧ C' = C) ∨ (accC s x.seq x.yes = 0 ∧ M' = x.seq :: M ∧ C' = C + (if x.yes then 1 else 0) ∧ x.seq ∉ M ∧ 0 < x.seq ∧ s'.high = max s.high x.seq ∧ s'.heard = x.tick)) := by
              by_cases hz : accC s x.seq x.yes = 0
              · obtain ⟨q1, q2, q3, q4, q5⟩ := hO.out.yes (q := x.seq) (t := x.tick) (c := x.yes) HXO.out.seq HXO.out.tick hz
                rw [hX'] at q1
                exact ⟨_, _, _, q1, ⟨by rw [← hgr, q2, hz]⟩, ⟨.inr ⟨hz, rfl, rfl, q3, q4, q5, rfl⟩⟩⟩
              · obtain ⟨q1, q2⟩ := hO.out.no (q := x.seq) (t := x.tick) (c := x.yes) HXO.out.seq HXO.out.tick hz
                rw [hX'] at q1
                exact ⟨_, _, _, q1, ⟨by rw [← hgr, q2]⟩, ⟨.inl ⟨hz, rfl, rfl, rfl⟩⟩⟩
            have HO' := Keep.mk hO'
            clear hC S6 hgr hX' hO'
            go_wp2_with fail
            refine hAc.mono ?_
            rintro ex w7 ⟨rfl, S7⟩
            have hF := fnd_c w w7 _ la X' 2 sx S7 HO'.out.ok (by decide)
            rw [HO'.out.fnd] at hF
            clear hAc S7 d7 d8 d9
            go_wp2_with fail
            refine hF.mono ?_
            rintro ex w8 ⟨rfl, S8⟩
            have HS8 := Keep.mk S8
            clear hF S8
            go_wp2_with (first
              | (show wpList _ _ _ ({ dst := _, op := Op.store 42 _ _, type := _, pos := _, after := _, guard := _ } :: _) _ _
                 refine store_new _ (lvc s') 42 rfl rfl rfl rfl rfl (by exact info42) (lvc_one _) ?_))
            intro w9 hS9 g9
            have S9 := hS9 w _ HS8.out
            generalize w8.heap.size = b19 at S9 ⊢
            have HS9 : Keep (Sep w w9 [boxA b19 (lvc s') 42, lobA la X', boxA b14 (lvc s) 42, boxA ob (opv x) 50, boxA cb cl 24, bmA mb M]) := ⟨S9⟩
            obtain ⟨y0, y1, y2, y3, y4, y5, y6⟩ := lv_cells (S9.boxGet k0m)
            obtain ⟨z0, z1, z2, z3, z4, z5, z6⟩ := lv_cells (S9.boxGet k2m)
            have d7 : w9.cell? ⟨ob, 7, none⟩ = some (uv x.seq) := (S9.boxGet k3m).cellv 7 _ rfl
            have d8 : w9.cell? ⟨ob, 8, none⟩ = some (uv x.tick) := (S9.boxGet k3m).cellv 8 _ rfl
            have d9 : w9.cell? ⟨ob, 9, none⟩ = some (.bool x.yes) := (S9.boxGet k3m).cellv 9 _ rfl
            have r2 : w9.cell? ⟨cb, 2, none⟩ = some (iv c.rate) := (S9.boxGet k4m).cellv 2 _ HCL.out.2.1
            have r3 : w9.cell? ⟨cb, 3, none⟩ = some (iv c.burst) := (S9.boxGet k4m).cellv 3 _ HCL.out.2.2
            clear hS9 g9 HS8 S9
            have hAC := acc_cases s x.seq x.yes
            have HR3 : Keep (R ≤ 300) := ⟨by have := HRC.out; have := HI.out; omega⟩
            clear hwR
            by_cases hfz : fr = 0
            · have hchk : Wi.chk s.wh s.wb x.seq = 0 := by have := HFR.out; omega
              by_cases hyt : x.yes = true ∧ tb = false
              · obtain ⟨hy, ht⟩ := hyt
                have h80 : gr = 80 := by rw [HC1.out]; exact hAC.2.1 hchk hy (by have := HTB.out; rw [ht] at this; simpa using this)
                obtain ⟨es, eM, eC⟩ : s = s' ∧ M = M' ∧ C = C' := by
                  rcases HC2.out with ⟨_, z1, z2, z3⟩ | ⟨z, _⟩
                  · exact ⟨z1.symm, z2.symm, z3.symm⟩
                  · rw [← HC1.out, h80] at z; cases z
                clear HC1 HC2 HFR HTB hAC hchk
                subst es eM eC
                subst ht h80 hfz
                rw [hy] at d9
                clear hy
                have hE := eq_same s w9
                have HSX : Keep (Sep w w9 [lobA la X', boxA cb cl 24, bmA mb M]) := ⟨Sep.dropM [lobA la X'] [boxA b14 (lvc s) 42, boxA ob (opv x) 50] HS9.out.tail⟩
                clear HS9
                obtain ⟨zz, qq, tt, f1, f2, f3, f4, f5, f6, f7, f8, f9, f10, f11⟩ := HO'.out.fin HBU.out HR3.out
                have hgt : ¬ tt < ((C : Nat) : Int) := by omega
                have HRX : Keep (R ≤ i + 1 ∧ C ≤ i + 1 ∧ (M).length ≤ i + 1) := ⟨by have := HRC.out; (try simp only [List.length_cons]); omega⟩
                clear HRC f11 HR3
                go_wp2_with fail
                go_roundw
                case rel => exact ⟨i + 1, R, C, X', _, M, by have := HI.out; omega, by have := HI.out; omega, rfl, rfl, rfl, HRX, HSX, HO'⟩
                case measure => simp [intOf]; have := HI.out; omega
              · have hz : accC s x.seq x.yes = 0 := hAC.2.2 hchk (fun hy => by
                  have := HTB.out
                  cases htb : tb with
                  | false => exact absurd ⟨hy, htb⟩ hyt
                  | true => rw [htb] at this; simpa using this)
                obtain ⟨eM, eC, hnm, h0, hhi, hhe⟩ : x.seq :: M = M' ∧ C + (if x.yes then 1 else 0) = C' ∧ x.seq ∉ M ∧ 0 < x.seq ∧ s'.high = max s.high x.seq ∧ s'.heard = x.tick := by
                  rcases HC2.out with ⟨z, _⟩ | ⟨_, z1, z2, z3⟩
                  · exact absurd hz z
                  · exact ⟨z1.symm, z2.symm, z3⟩
                have hg0 : gr = 0 := by rw [HC1.out, hz]
                clear HC1 HC2 HFR hAC hchk hz
                subst eM eC
                subst hg0 hfz
                rw [hhe] at y4
                have hlk := (HS9.out.bmGet (List.mem_cons_of_mem _ k4m)).look x.seq HXO.out.seq
                rw [decide_eq_false hnm] at hlk
                obtain ⟨w10, hup, S10⟩ := (fr1 [_, _, _, _, _] HS9.out).bmPut x.seq HXO.out.seq (by have := HRC.out; have := HI.out; omega)
                have t9 : w10.cell? ⟨ob, 9, none⟩ = some (.bool x.yes) := (S10.boxGet k4m).cellv 9 _ rfl
                have t2 : w10.cell? ⟨cb, 2, none⟩ = some (iv c.rate) := (S10.boxGet k5m).cellv 2 _ HCL.out.2.1
                have t3 : w10.cell? ⟨cb, 3, none⟩ = some (iv c.burst) := (S10.boxGet k5m).cellv 3 _ HCL.out.2.2
                have HSX : Keep (Sep w w10 [lobA la X', boxA cb cl 24, bmA mb (x.seq :: M)]) := ⟨by
                  have q : Sep w w10 (lobA la X' :: bmA mb (x.seq :: M) :: boxA b19 (lvc s') 42 :: boxA b14 (lvc s) 42 :: boxA ob (opv x) 50 :: boxA cb cl 24 :: []) := fr1 [_, _] S10
                  have q2 : Sep w w10 (lobA la X' :: bmA mb (x.seq :: M) :: boxA cb cl 24 :: []) := Sep.dropM [lobA la X', bmA mb (x.seq :: M)] [boxA b19 (lvc s') 42, boxA b14 (lvc s) 42, boxA ob (opv x) 50] q
                  exact bk1 [_, _] (fr1 [_] q2)⟩
                clear HS9 S10 y0 y1 y2 y3 y6 z0 z1 z2 z3 z4 z6 hnm hhe
                have n0 : (x.seq == 0) = false := by simpa using (show ¬ x.seq = 0 by omega)
                have n0' : decide (x.seq = 0) = false := decide_eq_false (by omega)
                have n0'' : ¬ (x.seq : Int) = 0 := by omega
                clear h0
                by_cases hy : x.yes = true
                · have ht : tb = true := by
                    cases htb : tb with
                    | false => exact absurd ⟨hy, htb⟩ hyt
                    | true => rfl
                  subst ht
                  rw [hy] at d9 t9
                  have eC : C + (if x.yes then 1 else 0) = C + 1 := by rw [hy]; rfl
                  rw [eC] at HO'
                  clear hy hyt eC HTB
                  by_cases hh : s.high < x.seq
                  · have hmx : s'.high = x.seq := by rw [hhi]; omega
                    rw [hmx] at y5
                    have hh1 : (s.high : Int) < (x.seq : Int) := by omega
                    have hh2 : decide (s.high < x.seq) = true := decide_eq_true hh
                    clear hhi hmx
                    obtain ⟨zz, qq, tt, f1, f2, f3, f4, f5, f6, f7, f8, f9, f10, f11⟩ := HO'.out.fin HBU.out HR3.out
                    have hgt : ¬ tt < ((C + 1 : Nat) : Int) := by omega
                    have HRX : Keep (R ≤ i + 1 ∧ C + 1 ≤ i + 1 ∧ (x.seq :: M).length ≤ i + 1) := ⟨by have := HRC.out; (try simp only [List.length_cons]); omega⟩
                    clear HRC f11 HR3
                    go_wp2_with fail
                    go_roundw
                    case rel => exact ⟨i + 1, R, C + 1, X', _, x.seq :: M, by have := HI.out; omega, by have := HI.out; omega, rfl, rfl, rfl, HRX, HSX, HO'⟩
                    case measure => simp [intOf]; have := HI.out; omega
                  · have hmx : s'.high = s.high := by rw [hhi]; omega
                    rw [hmx] at y5
                    have hh1 : ¬ (s.high : Int) < (x.seq : Int) := by omega
                    have hh2 : decide (s.high < x.seq) = false := decide_eq_false hh
                    clear hhi hmx
                    obtain ⟨zz, qq, tt, f1, f2, f3, f4, f5, f6, f7, f8, f9, f10, f11⟩ := HO'.out.fin HBU.out HR3.out
                    have hgt : ¬ tt < ((C + 1 : Nat) : Int) := by omega
                    have HRX : Keep (R ≤ i + 1 ∧ C + 1 ≤ i + 1 ∧ (x.seq :: M).length ≤ i + 1) := ⟨by have := HRC.out; (try simp only [List.length_cons]); omega⟩
                    clear HRC f11 HR3
                    go_wp2_with fail
                    go_roundw
                    case rel => exact ⟨i + 1, R, C + 1, X', _, x.seq :: M, by have := HI.out; omega, by have := HI.out; omega, rfl, rfl, rfl, HRX, HSX, HO'⟩
                    case measure => simp [intOf]; have := HI.out; omega
                · have hy : x.yes = false := by simpa using hy
                  rw [hy] at d9 t9
                  have eC : C + (if x.yes then 1 else 0) = C := by rw [hy]; rfl
                  rw [eC] at HO'
                  clear hy hyt eC HTB
                  by_cases hh : s.high < x.seq
                  · have hmx : s'.high = x.seq := by rw [hhi]; omega
                    rw [hmx] at y5
                    have hh1 : (s.high : Int) < (x.seq : Int) := by omega
                    have hh2 : decide (s.high < x.seq) = true := decide_eq_true hh
                    clear hhi hmx
                    obtain ⟨zz, qq, tt, f1, f2, f3, f4, f5, f6, f7, f8, f9, f10, f11⟩ := HO'.out.fin HBU.out HR3.out
                    have hgt : ¬ tt < ((C : Nat) : Int) := by omega
                    have HRX : Keep (R ≤ i + 1 ∧ C ≤ i + 1 ∧ (x.seq :: M).length ≤ i + 1) := ⟨by have := HRC.out; (try simp only [List.length_cons]); omega⟩
                    clear HRC f11 HR3
                    go_wp2_with fail
                    go_roundw
                    case rel => exact ⟨i + 1, R, C, X', _, x.seq :: M, by have := HI.out; omega, by have := HI.out; omega, rfl, rfl, rfl, HRX, HSX, HO'⟩
                    case measure => simp [intOf]; have := HI.out; omega
                  · have hmx : s'.high = s.high := by rw [hhi]; omega
                    rw [hmx] at y5
                    have hh1 : ¬ (s.high : Int) < (x.seq : Int) := by omega
                    have hh2 : decide (s.high < x.seq) = false := decide_eq_false hh
                    clear hhi hmx
                    obtain ⟨zz, qq, tt, f1, f2, f3, f4, f5, f6, f7, f8, f9, f10, f11⟩ := HO'.out.fin HBU.out HR3.out
                    have hgt : ¬ tt < ((C : Nat) : Int) := by omega
                    have HRX : Keep (R ≤ i + 1 ∧ C ≤ i + 1 ∧ (x.seq :: M).length ≤ i + 1) := ⟨by have := HRC.out; (try simp only [List.length_cons]); omega⟩
                    clear HRC f11 HR3
                    go_wp2_with fail
                    go_roundw
                    case rel => exact ⟨i + 1, R, C, X', _, x.seq :: M, by have := HI.out; omega, by have := HI.out; omega, rfl, rfl, rfl, HRX, HSX, HO'⟩
                    case measure => simp [intOf]; have := HI.out; omega
            · have hchk : Wi.chk s.wh s.wb x.seq ≠ 0 := by have := HFR.out; omega
              have hgf : gr = fr := by rw [HC1.out, (hAC.1 hchk).1]; exact HFR.out
              obtain ⟨es, eM, eC⟩ : s = s' ∧ M = M' ∧ C = C' := by
                rcases HC2.out with ⟨_, z1, z2, z3⟩ | ⟨z, _⟩
                · exact ⟨z1.symm, z2.symm, z3.symm⟩
                · exact absurd z (hAC.1 hchk).2
              clear HC1 HC2 HFR HTB hAC hchk
              subst es eM eC
              subst hgf
              have e3 : (gr == 0) = false := by simpa using hfz
              have e4 : decide (gr = 0) = false := decide_eq_false hfz
              have hE := eq_same s w9
              have HSX : Keep (Sep w w9 [lobA la X', boxA cb cl 24, bmA mb M]) := ⟨Sep.dropM [lobA la X'] [boxA b14 (lvc s) 42, boxA ob (opv x) 50] HS9.out.tail⟩
              clear HS9
              obtain ⟨zz, qq, tt, f1, f2, f3, f4, f5, f6, f7, f8, f9, f10, f11⟩ := HO'.out.fin HBU.out HR3.out
              have hgt : ¬ tt < ((C : Nat) : Int) := by omega
              have HRX : Keep (R ≤ i + 1 ∧ C ≤ i + 1 ∧ (M).length ≤ i + 1) := ⟨by have := HRC.out; (try simp only [List.length_cons]); omega⟩
              clear HRC f11 HR3
              go_wp2_with fail
              go_roundw
              case rel => exact ⟨i + 1, R, C, X', _, M, by have := HI.out; omega, by have := HI.out; omega, rfl, rfl, rfl, HRX, HSX, HO'⟩
              case measure => simp [intOf]; have := HI.out; omega
          · have n7 : decide (x.kd = 7) = false := decide_eq_false e7
            have n2 : decide (x.kd = 2) = false := decide_eq_false e2
            have b7 : (x.kd == 7) = false := by simpa using e7
            have b2 : (x.kd == 2) = false := by simpa using e2
            have HSX := Keep.mk HS2.out.tail
            have HRX : Keep (R ≤ i + 1 ∧ C ≤ i + 1 ∧ M.length ≤ i + 1) := ⟨by have := HRC.out; omega⟩
            clear HS2 HRC hwR hwC
            go_wp2_with fail
            go_roundw
            case rel => exact ⟨i + 1, R, C, _, _, M, by have := HI.out; omega, by have := HI.out; omega, rfl, rfl, rfl, HRX, HSX, hO⟩
            case measure => simp [intOf]; have := HI.out; omega
      · by_cases hin : i < n
        · have hi1 : (i : Int) < (n : Nat) := by omega
          have hi2 : ¬ (i : Int) < 300 := by omega
          have HG := Keep.mk hS.out.g
          clear hS
          go_wp2_with fail
          go_ret
          exact ⟨rfl, HG.out⟩
        · have hi1 : ¬ (i : Int) < (n : Nat) := by omega
          have HG := Keep.mk hS.out.g
          clear hS
          go_wp2_with fail
          go_ret
          exact ⟨rfl, HG.out⟩
end Go.Proofs.YtplcicbpkbamnaaDoor.Lo

