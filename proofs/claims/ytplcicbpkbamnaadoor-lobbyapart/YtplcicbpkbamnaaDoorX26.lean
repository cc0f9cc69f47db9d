import Derived.Test.YtplcicbpkbamnaaDoorX25
import Derived.BigQuiet
/- LobbyApart's walk -/
namespace Go.Proofs.YtplcicbpkbamnaaDoor.Lo
open Go Go.RowKit Go.Maps

/-- ann, then bob, as the law lets them in -/
def jn (X : Lb) : Nat → Lb
  | 0 => X
  | 1 => joiX X sann sn ss sann 9
  | _ => joiX (joiX X sann sn ss sann 9) sbob sn ss sbob 9
theorem opv_one1 (o : Opr) : ∀ v ∈ opv o, v.oneCell' = true := by
  intro v hv
  simp only [opv, List.mem_cons, List.not_mem_nil, or_false] at hv
  rcases hv with rfl | rfl | rfl | rfl | rfl | rfl | rfl | rfl | rfl | rfl <;> rfl
theorem fnd_lv (X : Lb) (k : Nat) (fr : ByteArray) : ∃ s : Se, (fndS X k fr).1 = lvc s := by
  unfold fndS
  split
  · exact ⟨⟨0, 0, ⟨#[]⟩, ⟨#[]⟩, 0, 0, 0, 0, [], 0, 0, 0⟩, rfl⟩
  · split
    · exact ⟨_, rfl⟩
    · exact ⟨⟨0, 0, ⟨#[]⟩, ⟨#[]⟩, 0, 0, 0, 0, [], 0, 0, 0⟩, rfl⟩
theorem lv_cells {W : World} {b : Nat} {s : Se} (h : Has W b (lvc s) 42) : W.cell? ⟨b, 0, none⟩ = some (uv s.num) ∧ W.cell? ⟨b, 1, none⟩ = some (iv (s.pl : Nat)) ∧ W.cell? ⟨b, 2, none⟩ = some (.string s.nm) ∧ W.cell? ⟨b, 3, none⟩ = some (.string s.fr) ∧ W.cell? ⟨b, 4, none⟩ = some (uv s.heard) ∧ W.cell? ⟨b, 5, none⟩ = some (uv s.high) ∧ W.cell? ⟨b, 6, none⟩ = some (uv s.sent) :=
  ⟨h.cellv 0 _ rfl, h.cellv 1 _ rfl, h.cellv 2 _ rfl, h.cellv 3 _ rfl, h.cellv 4 _ rfl, h.cellv 5 _ rfl, h.cellv 6 _ rfl⟩
theorem eq_same (s : Se) (w : World) : (Op.equalIn 10000 42 (.agg #[uv s.num, iv (s.pl : Nat), .string s.nm, .string s.fr, uv s.heard, uv s.high, uv s.sent]) (.agg #[uv s.num, iv (s.pl : Nat), .string s.nm, .string s.fr, uv s.heard, uv s.high, uv s.sent])).run Tryd.prog w = .ok true w :=
  (eq_lv s s w).trans (by rw [sme_refl])
theorem snt_form (X : Lb) (k : Nat) : ∃ a b, sntS X k = .tuple #[uv a, iv b] := by
  unfold sntS
  cases fds X k with
  | none => exact ⟨_, _, rfl⟩
  | some s => exact ⟨_, _, rfl⟩
theorem snt_next (X : Lb) (k : Nat) : (sntX X k).next = X.next := by
  unfold sntX
  cases fds X k <;> rfl
set_option maxRecDepth 100000 in
set_option maxHeartbeats 32000000 in
theorem apart_c (w : World) (c : Cf) (v sv : Value) (L : List Opr) (hn : Na.Kc w) (hk : Kc w) (hs : SrO w sv L) :
    Calls Tryd.prog 6 #[.agg (cfv c v), sv] w fun e w' => e = .returned (.bool true) ∧ w.grownBy w' none := by
  obtain ⟨du, hdu, hdr⟩ := under24
  obtain ⟨du5, hdu5, hdr5⟩ := under50
  obtain ⟨sa, scap, hsv, _⟩ := hs.o
  obtain ⟨n, hnL⟩ : ∃ n, L.length = n := ⟨_, rfl⟩
  rw [hnL] at hsv
  subst hsv
  have S2 := (Sep.nil w).newBox (cfv c v) 24
  obtain ⟨W1, hW1⟩ : ∃ W1, w.alloc (.cells (cfv c v) 24) = W1 := ⟨_, rfl⟩
  obtain ⟨cb, hcb⟩ : ∃ cb, w.heap.size = cb := ⟨_, rfl⟩
  rw [hW1, hcb] at S2
  have HS2 : Keep (Sep w W1 [boxA cb (cfv c v).toList 24]) := ⟨S2⟩
  have HKK : Keep (∀ W l, Sep w W l → Na.Kc W ∧ Kc W) := ⟨fun W l h => ⟨hn.kept h.g, hk.kept h.g (by simp)⟩⟩
  have HNK := Keep.mk (And.intro hn (And.intro hk (And.intro hs hnL)))
  have hA := alive_c W1 (HKK.out _ _ S2).1 (HKK.out _ _ S2).2
  have HCV : Keep ((cfv c v).toList.length = 13 ∧ (cfv c v).toList[0]? = some (iv c.ses) ∧ ∀ u, (cfv c v).toList.set 12 u = (cfv c u).toList) := ⟨rfl, rfl, fun _ => rfl⟩
  generalize hcv : cfv c v = cv at hW1 HS2 HCV ⊢
  clear hcv S2 hn hk hs
  go_enter Tryd.func6, Tryd.ntmps6
  go_wp2_with fail
  refine hA.mono ?_
  rintro e w3 ⟨rfl, g3⟩
  have S3 := HS2.out.grown g3
  have hP := plain_s w3
  have HS3 := Keep.mk S3
  clear hA g3 HS2 hW1 hcb S3
  go_wp2_with fail
  refine hP.mono ?_
  rintro e w4 ⟨ab, rfl, S4'⟩
  have S4 : Sep w w4 (boxA ab pcs 27 :: boxA cb cv.toList 24 :: []) := HS3.out.ovr S4'
  clear hP S4' HS3
  have hfl := fld24 ab w4
  rw [show cfv pc (.slice (some ⟨ab, 0, none⟩) 3 3) = #[iv 2, iv 0, iv 8, iv 2, iv 0, iv 0, iv 3, iv 0, iv 0, iv 0, .string ⟨#[]⟩, .string ⟨#[]⟩, (.slice (some ⟨ab, 0, none⟩) 3 3)] from rfl]
  obtain ⟨y, hy⟩ : ∃ y, cv.toList[12]? = some y := ⟨_, List.getElem?_eq_getElem (by rw [HCV.out.1]; omega)⟩
  have c12 : w4.cell? ⟨cb, 12, none⟩ = some y := (S4.boxGet k1m).cellv 12 _ hy
  have f12 : w4.frozen? ⟨cb, 12, none⟩ = false := (S4.boxGet k1m).frozen 12
  have S5 := S4.swap.boxPut 12 (.slice (some ⟨ab, 0, none⟩) 3 3)
  rw [HCV.out.2.2] at S5
  obtain ⟨w5, hw5⟩ : ∃ w5, w4.setCell ⟨cb, 12, none⟩ (.slice (some ⟨ab, 0, none⟩) 3 3) = w5 := ⟨_, rfl⟩
  rw [hw5] at S5
  have c0 : w5.cell? ⟨cb, 0, none⟩ = some (iv c.ses) := (S5.boxGet k0m).cellv 0 _ rfl
  have f0 : w5.frozen? ⟨cb, 0, none⟩ = false := (S5.boxGet k0m).frozen 0
  clear S4 hy HCV
  by_cases h2 : c.ses < 2
  · have S6 := S5.boxPut 0 (iv 2)
    rw [show (cfv c (.slice (some ⟨ab, 0, none⟩) 3 3)).toList.set 0 (iv 2) = (cfv { c with ses := 2 } (.slice (some ⟨ab, 0, none⟩) 3 3)).toList from rfl] at S6
    obtain ⟨w6, hw6⟩ : ∃ w6, w5.setCell ⟨cb, 0, none⟩ (iv 2) = w6 := ⟨_, rfl⟩
    rw [hw6] at S6
    have hc2 : 2 ≤ ({ c with ses := 2 } : Cf).ses := Int.le_refl _
    generalize ({ c with ses := 2 } : Cf) = c' at S6 hc2
    clear S5
    have RNG := Keep.mk (S6.boxGet k0m).range
    have hN : ∀ W l, Sep w W (boxA cb (cfv c' (.slice (some ⟨ab, 0, none⟩) 3 3)).toList 24 :: boxA ab pcs 27 :: l) → Calls Tryd.prog 9 #[.agg (cfv c' (.slice (some ⟨ab, 0, none⟩) 3 3))] W (NwR W (newL c' pP)) := fun W l h => new_c W c' (.slice (some ⟨ab, 0, none⟩) 3 3) pP (pcs_in (h.boxGet k1m)) (HKK.out _ _ h).1
    have HCL : Keep ((cfv c' (.slice (some ⟨ab, 0, none⟩) 3 3)).toList.length = 13) := ⟨rfl⟩
    have hcl : (cfv c' (.slice (some ⟨ab, 0, none⟩) 3 3)) = (cfv c' (.slice (some ⟨ab, 0, none⟩) 3 3)).toList.toArray := rfl
    rw [hcl] at hN
    generalize (cfv c' (.slice (some ⟨ab, 0, none⟩) 3 3)).toList = cl at hN RNG HCL S6
    have hN1 := hN w6 [] S6
    have RNGB : Keep ((w5.setCell ⟨cb, 0, none⟩ (iv 2)).rangeAt cb 0 cl) := ⟨by rw [hw6]; exact RNG.out⟩
    have HN := Keep.mk hN
    have HS6 := Keep.mk S6
    clear S6 hN hcl
    cases hX : newL c' pP with
    | none =>
      rw [hX] at hN1
      go_wp2_with (first
        | (show wpList _ _ _ ({ dst := _, op := Op.load 24 _, type := _, pos := _, after := _, guard := _ } :: _) _ _
           first | refine wpList_load_mid rfl 24 _ rfl _ _ rfl _ _ RNG.out hdu hdr (by rw [HCL.out]; exact info24) ?_ | refine wpList_load_mid rfl 24 _ rfl _ _ rfl _ _ RNGB.out hdu hdr (by rw [HCL.out]; exact info24) ?_))
      refine hN1.mono ?_
      rintro e w7 ⟨rfl, g7⟩
      have S7 := HS6.out.grown g7
      have hN2 := HN.out _ _ S7
      rw [hX] at hN2
      replace RNG := Keep.mk (S7.boxGet k0m).range
      have HS7 := Keep.mk S7
      clear S7 g7 hN1 HS6
      go_wp2_with (first
        | (show wpList _ _ _ ({ dst := _, op := Op.load 24 _, type := _, pos := _, after := _, guard := _ } :: _) _ _
           first | refine wpList_load_mid rfl 24 _ rfl _ _ rfl _ _ RNG.out hdu hdr (by rw [HCL.out]; exact info24) ?_ | refine wpList_load_mid rfl 24 _ rfl _ _ rfl _ _ RNGB.out hdu hdr (by rw [HCL.out]; exact info24) ?_))
      refine hN2.mono ?_
      rintro e w8 ⟨rfl, g8⟩
      have HG := Keep.mk (HS7.out.g.trans g8)
      clear hN2 g8 HS7
      go_wp2_with fail
      go_ret
      exact ⟨rfl, HG.out⟩
    | some X =>
      rw [hX] at hN1
      go_wp2_with (first
        | (show wpList _ _ _ ({ dst := _, op := Op.load 24 _, type := _, pos := _, after := _, guard := _ } :: _) _ _
           first | refine wpList_load_mid rfl 24 _ rfl _ _ rfl _ _ RNG.out hdu hdr (by rw [HCL.out]; exact info24) ?_ | refine wpList_load_mid rfl 24 _ rfl _ _ rfl _ _ RNGB.out hdu hdr (by rw [HCL.out]; exact info24) ?_))
      refine hN1.mono ?_
      rintro e w7 ⟨la, rfl, S7'⟩
      have S7 : Sep w w7 (boxA cb cl 24 :: boxA ab pcs 27 :: lobA la X :: []) := by
        have h := HS6.out.ovr S7'
        exact h.swap.perm (List.Perm.cons _ (List.Perm.swap _ _ _))
      have hN2 := HN.out _ _ S7
      rw [hX] at hN2
      replace RNG := Keep.mk (S7.boxGet k0m).range
      have HS7 := Keep.mk S7
      clear S7 S7' hN1 HS6
      go_wp2_with (first
        | (show wpList _ _ _ ({ dst := _, op := Op.load 24 _, type := _, pos := _, after := _, guard := _ } :: _) _ _
           first | refine wpList_load_mid rfl 24 _ rfl _ _ rfl _ _ RNG.out hdu hdr (by rw [HCL.out]; exact info24) ?_ | refine wpList_load_mid rfl 24 _ rfl _ _ rfl _ _ RNGB.out hdu hdr (by rw [HCL.out]; exact info24) ?_))
      refine hN2.mono ?_
      rintro e w8 ⟨lb, rfl, S8'⟩
      have HS8 : Keep (Sep w w8 [lobA la (jn X 0), lobA lb (jn X 0)]) := ⟨by
        have h : Sep w w8 (lobA lb X :: boxA cb cl 24 :: boxA ab pcs 27 :: lobA la X :: []) := HS7.out.ovr S8'
        exact ((h.swap.tail).swap.tail).swap⟩
      obtain ⟨j1, j2, j3, j4, j5⟩ := ann_bob hX hc2 sann sbob sn ss (by decide) (by decide)
      have HJ0 : Keep (LbOk (jn X 0) ∧ (jn X 0).next = 1) := ⟨j1, j2⟩
      have HJ1 : Keep (LbOk (jn X 1) ∧ (jn X 1).next = 2) := ⟨j3, j4⟩
      have HTW : Keep (Tw (jn X 2) (jn X 2)) := ⟨j5⟩
      clear hN2 S8' HS7 RNG HN HCL hX j1 j2 j3 j4 j5
      go_wp2_with fail
      go_loopw [9] (fun u wr => ∃ i : Nat, i ≤ 2 ∧ u = iv i ∧ Keep (Sep w wr [lobA la (jn X i), lobA lb (jn X i)])) (fun u _ => (2 - intOf u).toNat)
      case atStart => exact ⟨0, by omega, rfl, HS8⟩
      case round =>
        clear HS8
        obtain ⟨i, hi, rfl, hS⟩ := hrel
        by_cases hi0 : i = 0
        · subst hi0
          have S8 := hS.out.newBox #[.string sann, .string sbob] 9
          obtain ⟨w8, hw8⟩ : ∃ w8, wr.alloc (.cells #[.string sann, .string sbob] 9) = w8 := ⟨_, rfl⟩
          obtain ⟨sb, hsb⟩ : ∃ sb, wr.heap.size = sb := ⟨_, rfl⟩
          rw [hw8, hsb] at S8
          have n0 : w8.cell? ⟨sb, 0, none⟩ = some (.string sann) := (S8.boxGet k0m).cellv 0 _ rfl
          have hJ := join_c w w8 _ la (jn X 0) sann sn ss sann 9 S8.tail HJ0.out.1 (HKK.out _ _ S8).1 HNK.out.2.1 (by decide) (by decide) (by decide) (by decide) (by rw [HJ0.out.2]; decide)
          clear S8 hS
          go_wp2_with fail
          refine hJ.mono ?_
          rintro e w9 ⟨rfl, S9⟩
          have hJ2 := join_c w w9 _ lb (jn X 0) sann sn ss sann 9 S9.swap HJ0.out.1 (HKK.out _ _ S9).1 HNK.out.2.1 (by decide) (by decide) (by decide) (by decide) (by rw [HJ0.out.2]; decide)
          clear hJ S9 n0 hw8 hsb
          go_wp2_with fail
          refine hJ2.mono ?_
          rintro e w10 ⟨rfl, S10⟩
          have HS10 : Keep (Sep w w10 [lobA la (jn X 1), lobA lb (jn X 1)]) := ⟨S10.swap⟩
          clear hJ2 S10
          go_wp2_with fail
          exact ⟨⟨1, by omega, rfl, HS10⟩, by simp only [intOf]; omega⟩
        · by_cases hi1 : i = 1
          · subst hi1
            have S8 := hS.out.newBox #[.string sann, .string sbob] 9
            obtain ⟨w8, hw8⟩ : ∃ w8, wr.alloc (.cells #[.string sann, .string sbob] 9) = w8 := ⟨_, rfl⟩
            obtain ⟨sb, hsb⟩ : ∃ sb, wr.heap.size = sb := ⟨_, rfl⟩
            rw [hw8, hsb] at S8
            have n1 : w8.cell? ⟨sb, 1, none⟩ = some (.string sbob) := (S8.boxGet k0m).cellv 1 _ rfl
            have hJ := join_c w w8 _ la (jn X 1) sbob sn ss sbob 9 S8.tail HJ1.out.1 (HKK.out _ _ S8).1 HNK.out.2.1 (by decide) (by decide) (by decide) (by decide) (by rw [HJ1.out.2]; decide)
            clear S8 hS
            go_wp2_with fail
            refine hJ.mono ?_
            rintro e w9 ⟨rfl, S9⟩
            have hJ2 := join_c w w9 _ lb (jn X 1) sbob sn ss sbob 9 S9.swap HJ1.out.1 (HKK.out _ _ S9).1 HNK.out.2.1 (by decide) (by decide) (by decide) (by decide) (by rw [HJ1.out.2]; decide)
            clear hJ S9 n1 hw8 hsb
            go_wp2_with fail
            refine hJ2.mono ?_
            rintro e w10 ⟨rfl, S10⟩
            have HS10 : Keep (Sep w w10 [lobA la (jn X 2), lobA lb (jn X 2)]) := ⟨S10.swap⟩
            clear hJ2 S10
            go_wp2_with fail
            exact ⟨⟨2, by omega, rfl, HS10⟩, by simp only [intOf]; omega⟩
          · have hi2 : i = 2 := by omega
            rw [hi2] at hS
            have hnl : ¬ (i : Int) < 2 := by omega
            clear HJ0 HJ1 hi0 hi1 hi2 hi
            go_wp2_with fail
            go_loopw [11] (fun u wr => ∃ (i : Nat) (A B : Lb), i ≤ n ∧ i ≤ 200 ∧ u = iv i ∧ Keep (Sep w wr [lobA la A, lobA lb B]) ∧ Keep (Tw A B)) (fun u _ => (200 - intOf u).toNat)
            case atStart => exact ⟨0, _, _, by omega, by omega, rfl, hS, HTW⟩
            case round =>
              clear hS HTW
              clear hnl
              obtain ⟨i, A, B, hi, h200, rfl, hS, hT⟩ := hrel
              by_cases hlt : i < n ∧ i < 200
              · obtain ⟨hl1, hl2⟩ := hlt
                have hSR := HNK.out.2.2.1.kept hS.out.g
                obtain ⟨a', cap', e, hq⟩ := hSR.o
                rw [HNK.out.2.2.2] at e hq
                injection e with e1' e2' e3'
                obtain ⟨g, og, hg, hq⟩ := hq (by omega)
                rw [← e1'] at hg
                subst hg
                obtain ⟨x, hx⟩ : ∃ x, L[i]? = some x := ⟨_, List.getElem?_eq_getElem (by rw [HNK.out.2.2.2]; exact hl1)⟩
                have HRG := Keep.mk (hq i x hx)
                have HXO := Keep.mk (hSR.s x (List.mem_of_getElem? hx))
                have hi0 : (0 : Int) ≤ (i : Int) := by omega
                have hi1 : (i : Int) < (n : Nat) := by omega
                have hi2 : (i : Int) < 200 := by omega
                have hti : ((i : Nat) : Int).toNat = i := by omega
                have hwi : IntKind.i64.wrap ((i : Int) + 1) = ((i + 1 : Nat) : Int) := by rw [wi _ (by omega) (by omega)]; omega
                have HI : Keep (i < n ∧ i < 200) := ⟨hl1, hl2⟩
                clear hSR hq e1' e2' e3' hx hl1 hl2 hi h200
                go_wp2_with (first
                  | (show wpList _ _ _ ({ dst := _, op := Op.load 50 _, type := _, pos := _, after := _, guard := _ } :: _) _ _
                     first | refine wpList_load_mid rfl 50 _ rfl _ _ rfl _ _ HRG.out hdu5 hdr5 (by exact info50) ?_ | refine wpList_load_mid rfl 50 _ rfl _ _ rfl _ _ HRGB.out hdu5 hdr5 (by exact info50) ?_)
                  | (show wpList _ _ _ ({ dst := _, op := Op.store 50 _ _, type := _, pos := _, after := _, guard := _ } :: _) _ _
                     refine store_new _ (opv x) 50 rfl rfl rfl rfl rfl (by exact info50) (opv_one1 x) ?_))
                intro w2 hS2 g2
                have S2 := hS2 w _ hS.out
                generalize wr.heap.size = ob at S2 ⊢
                have d0 : w2.cell? ⟨ob, 0, none⟩ = some (iv x.kd) := (S2.boxGet k0m).cellv 0 _ rfl
                have d6 : w2.cell? ⟨ob, 6, none⟩ = some (uv x.ses) := (S2.boxGet k0m).cellv 6 _ rfl
                have f6 : w2.frozen? ⟨ob, 6, none⟩ = false := (S2.boxGet k0m).frozen 6
                have HS2 := Keep.mk S2
                clear hS2 g2 S2 hS HRG
                by_cases e7 : x.kd = 7
                · rw [e7] at d0
                  have hR1 := refill_c w w2 _ la A HS2.out.swap hT.out.oa
                  clear HS2
                  go_wp2_with fail
                  refine hR1.mono ?_
                  rintro e w3 ⟨rfl, S3⟩
                  have hR2 := refill_c w w3 _ lb B S3.third hT.out.ob
                  clear hR1 S3 d0 d6 f6
                  go_wp2_with fail
                  refine hR2.mono ?_
                  rintro e w4 ⟨rfl, S4⟩
                  have HSX : Keep (Sep w w4 [lobA la (refX A), lobA lb (refX B)]) := ⟨(S4.third.tail).swap⟩
                  have HTX := Keep.mk hT.out.refill
                  clear hR2 S4
                  go_wp2_with fail
                  go_roundw
                  case rel => exact ⟨i + 1, _, _, by have := HI.out; omega, by have := HI.out; omega, rfl, HSX, HTX⟩
                  case measure => simp [intOf]; have := HI.out; omega
                · by_cases e6 : x.kd = 6
                  · rw [e6] at d0
                    have HSX := Keep.mk HS2.out.tail
                    have HTX := hT
                    clear HS2
                    go_wp2_with fail
                    go_roundw
                    case rel => exact ⟨i + 1, _, _, by have := HI.out; omega, by have := HI.out; omega, rfl, HSX, HTX⟩
                    case measure => simp [intOf]; have := HI.out; omega
                  · by_cases e1 : x.kd = 1
                    · rw [e1] at d0
                      have HSX := Keep.mk HS2.out.tail
                      have HTX := hT
                      clear HS2
                      go_wp2_with fail
                      go_roundw
                      case rel => exact ⟨i + 1, _, _, by have := HI.out; omega, by have := HI.out; omega, rfl, HSX, HTX⟩
                      case measure => simp [intOf]; have := HI.out; omega
                    · have n7 : decide (x.kd = 7) = false := decide_eq_false e7
                      have n6 : decide (x.kd = 6) = false := decide_eq_false e6
                      have n1 : decide (x.kd = 1) = false := decide_eq_false e1
                      have b7 : (x.kd == 7) = false := by simpa using e7
                      have b6 : (x.kd == 6) = false := by simpa using e6
                      have b1 : (x.kd == 1) = false := by simpa using e1
                      by_cases hm : x.ses % 2 = 0
                      · have S3 := HS2.out.boxPut 6 (.int .u64 2)
                        rw [show (opv x).set 6 (.int .u64 2) = opv { x with ses := 2 } from rfl] at S3
                        obtain ⟨w3, hw3⟩ : ∃ w3, w2.setCell ⟨ob, 6, none⟩ (.int .u64 2) = w3 := ⟨_, rfl⟩
                        rw [hw3] at S3
                        have hxo : OpOk { x with ses := 2 } := ⟨HXO.out.a, HXO.out.b, HXO.out.c, HXO.out.nm, by show 2 < _; decide, HXO.out.seq, HXO.out.tick⟩
                        have hAc := acts_c w w3 _ la A { x with ses := 2 } S3.swap hT.out.oa hT.out.ua HNK.out.1 HNK.out.2.1 hxo (by rw [hT.out.na]; decide)
                        have HTX := Keep.mk (hT.out.two (o := { x with ses := 2 }) hxo e1 e6 e7 rfl)
                        have RR := Keep.mk (S3.boxGet k0m).range
                        have RRB : Keep ((w2.setCell ⟨ob, 6, none⟩ (.int .u64 2)).rangeAt ob 0 (opv { x with ses := 2 })) := ⟨by rw [hw3]; exact RR.out⟩
                        have hm2 : (x.ses : Int) % 2 = 0 := by omega
                        clear S3 HS2 hxo
                        go_wp2_with (first
                          | (show wpList _ _ _ ({ dst := _, op := Op.load 50 _, type := _, pos := _, after := _, guard := _ } :: _) _ _
                             first | refine wpList_load_mid rfl 50 _ rfl _ _ rfl _ _ RR.out hdu5 hdr5 (by exact info50) ?_ | refine wpList_load_mid rfl 50 _ rfl _ _ rfl _ _ RRB.out hdu5 hdr5 (by exact info50) ?_))
                        refine hAc.mono ?_
                        rintro e w4 ⟨rfl, S4⟩
                        have HSX : Keep (Sep w w4 [lobA la (actX A { x with ses := 2 }), lobA lb B]) := ⟨S4.swap.tail⟩
                        clear hAc S4 RR RRB
                        go_wp2_with fail
                        go_roundw
                        case rel => exact ⟨i + 1, _, _, by have := HI.out; omega, by have := HI.out; omega, rfl, HSX, HTX⟩
                        case measure => simp [intOf]; have := HI.out; omega
                      · have S3 := HS2.out.boxPut 6 (.int .u64 1)
                        rw [show (opv x).set 6 (.int .u64 1) = opv { x with ses := 1 } from rfl] at S3
                        obtain ⟨w3, hw3⟩ : ∃ w3, w2.setCell ⟨ob, 6, none⟩ (.int .u64 1) = w3 := ⟨_, rfl⟩
                        rw [hw3] at S3
                        have hxo : OpOk { x with ses := 1 } := ⟨HXO.out.a, HXO.out.b, HXO.out.c, HXO.out.nm, by show 1 < _; decide, HXO.out.seq, HXO.out.tick⟩
                        have HTX := Keep.mk (hT.out.one (o := { x with ses := 1 }) hxo e1 e6 rfl)
                        have hAc := acts_c w w3 _ la A { x with ses := 1 } S3.swap hT.out.oa hT.out.ua HNK.out.1 HNK.out.2.1 hxo (by rw [hT.out.na]; decide)
                        have RR := Keep.mk (S3.boxGet k0m).range
                        have hm2 : ¬ (x.ses : Int) % 2 = 0 := by omega
                        have HXQ : Keep (x.seq < 18446744073709551616) := ⟨HXO.out.seq⟩
                        obtain ⟨x1, hx1⟩ : ∃ x1 : Opr, { x with ses := 1 } = x1 := ⟨_, rfl⟩
                        have HSQ : Keep (x1.seq = x.seq) := ⟨by rw [← hx1]⟩
                        rw [hx1] at hAc RR HTX hxo S3
                        have RRB : Keep ((w2.setCell ⟨ob, 6, none⟩ (.int .u64 1)).rangeAt ob 0 (opv x1)) := ⟨by rw [hw3]; exact RR.out⟩
                        clear S3 HS2
                        go_wp2_with (first
                          | (show wpList _ _ _ ({ dst := _, op := Op.load 50 _, type := _, pos := _, after := _, guard := _ } :: _) _ _
                             first | refine wpList_load_mid rfl 50 _ rfl _ _ rfl _ _ RR.out hdu5 hdr5 (by exact info50) ?_ | refine wpList_load_mid rfl 50 _ rfl _ _ rfl _ _ RRB.out hdu5 hdr5 (by exact info50) ?_))
                        refine hAc.mono ?_
                        rintro e w4 ⟨rfl, S4⟩
                        have hAc2 := acts_c w w4 _ lb B x1 S4.third hT.out.ob hT.out.ub HNK.out.1 HNK.out.2.1 hxo (by rw [hT.out.nb]; decide)
                        replace RR := Keep.mk (S4.boxGet k1m).range
                        clear hAc S4 d0 d6 f6 hw3
                        go_wp2_with (first
                          | (show wpList _ _ _ ({ dst := _, op := Op.load 50 _, type := _, pos := _, after := _, guard := _ } :: _) _ _
                             first | refine wpList_load_mid rfl 50 _ rfl _ _ rfl _ _ RR.out hdu5 hdr5 (by exact info50) ?_ | refine wpList_load_mid rfl 50 _ rfl _ _ rfl _ _ RRB.out hdu5 hdr5 (by exact info50) ?_))
                        refine hAc2.mono ?_
                        rintro e w5' ⟨rfl, S5⟩
                        generalize actX A x1 = A' at S5 HTX
                        generalize actX B x1 = B' at S5 HTX
                        obtain ⟨q1, q2, q3, _⟩ := HTX.out.ask sann x1.seq
                        obtain ⟨s, hs⟩ := fnd_lv B' 1 sann
                        obtain ⟨er, her⟩ : ∃ er, (fndS B' 1 sann).2 = er := ⟨_, rfl⟩
                        have hF := fnd_c w w5' _ la A' 1 sann S5.swap HTX.out.oa (by decide)
                        rw [q1, hs, her] at hF
                        clear hAc2 S5 RR RRB
                        go_wp2_with fail
                        refine hF.mono ?_
                        rintro e w6' ⟨rfl, S6⟩
                        have HS6 := Keep.mk S6
                        clear hF S6
                        go_wp2_with (first
                          | (show wpList _ _ _ ({ dst := _, op := Op.store 42 _ _, type := _, pos := _, after := _, guard := _ } :: _) _ _
                             refine store_new _ (lvc s) 42 rfl rfl rfl rfl rfl (by exact info42) (lvc_one _) ?_))
                        intro w7' hS7 g7
                        have S7 := hS7 w _ HS6.out
                        generalize w6'.heap.size = b13 at S7 ⊢
                        have hF2 := fnd_c w w7' _ lb B' 1 sann (S7.perm (List.Perm.trans (List.Perm.cons _ (List.Perm.swap _ _ _)) (List.Perm.swap _ _ _))) HTX.out.ob (by decide)
                        rw [hs, her] at hF2
                        clear hS7 g7 HS6 S7
                        go_wp2_with fail
                        refine hF2.mono ?_
                        rintro e w8' ⟨rfl, S8⟩
                        have HS8 := Keep.mk S8
                        clear hF2 S8
                        go_wp2_with (first
                          | (show wpList _ _ _ ({ dst := _, op := Op.store 42 _ _, type := _, pos := _, after := _, guard := _ } :: _) _ _
                             refine store_new _ (lvc s) 42 rfl rfl rfl rfl rfl (by exact info42) (lvc_one _) ?_))
                        intro w9' hS9 g9
                        have S9 := hS9 w _ HS8.out
                        generalize w8'.heap.size = b15 at S9 ⊢
                        clear hS9 g9 HS8
                        go_wp2_with fail
                        obtain ⟨cr, hcr⟩ : ∃ cr, chkS B' 1 x1.seq = cr := ⟨_, rfl⟩
                        obtain ⟨tb, htb⟩ : ∃ tb, tokS B' 1 = tb := ⟨_, rfl⟩
                        have HC1 : Keep (∀ W, Sep w W [boxA b15 (lvc s) 42, lobA lb B', boxA b13 (lvc s) 42, lobA la A', boxA ob (opv x1) 50] → Calls Tryd.prog 23 #[pt la, .int .u64 1, uv x1.seq] W fun e W' => e = .returned (iv cr) ∧ Sep w W' [boxA b15 (lvc s) 42, lobA lb B', boxA b13 (lvc s) 42, lobA la A', boxA ob (opv x1) 50]) := ⟨fun W h => by
                          have q := chk_c w W _ la A' 1 x1.seq (fr1 [_, _, _] h) HTX.out.oa (by decide) (by rw [HSQ.out]; exact HXQ.out)
                          rw [q2, hcr] at q
                          exact q.mono fun e W' ⟨he, hw⟩ => ⟨he, bk1 [_, _, _] hw⟩⟩
                        have HC2 : Keep (∀ W, Sep w W [boxA b15 (lvc s) 42, lobA lb B', boxA b13 (lvc s) 42, lobA la A', boxA ob (opv x1) 50] → Calls Tryd.prog 23 #[pt lb, .int .u64 1, uv x1.seq] W fun e W' => e = .returned (iv cr) ∧ Sep w W' [boxA b15 (lvc s) 42, lobA lb B', boxA b13 (lvc s) 42, lobA la A', boxA ob (opv x1) 50]) := ⟨fun W h => by
                          have q := chk_c w W _ lb B' 1 x1.seq h.swap HTX.out.ob (by decide) (by rw [HSQ.out]; exact HXQ.out)
                          rw [hcr] at q
                          exact q.mono fun e W' ⟨he, hw⟩ => ⟨he, hw.swap⟩⟩
                        have HK1 : Keep (∀ W, Sep w W [boxA b15 (lvc s) 42, lobA lb B', boxA b13 (lvc s) 42, lobA la A', boxA ob (opv x1) 50] → Calls Tryd.prog 22 #[pt la, .int .u64 1] W fun e W' => e = .returned (.bool tb) ∧ W' = W) := ⟨fun W h => by
                          have q := tok_c w W _ la A' 1 (fr1 [_, _, _] h) HTX.out.oa (by decide)
                          rw [q3, htb] at q
                          exact q⟩
                        have HK2 : Keep (∀ W, Sep w W [boxA b15 (lvc s) 42, lobA lb B', boxA b13 (lvc s) 42, lobA la A', boxA ob (opv x1) 50] → Calls Tryd.prog 22 #[pt lb, .int .u64 1] W fun e W' => e = .returned (.bool tb) ∧ W' = W) := ⟨fun W h => by
                          have q := tok_c w W _ lb B' 1 h.swap HTX.out.ob (by decide)
                          rw [htb] at q
                          exact q⟩
                        have HL9 := Keep.mk (S9.grown (gr_drew w9' none))
                        clear q1 q2 q3 hs her hcr htb S9
                        refine wp_region_held_drew (S := fun w' => Sep w w' [boxA b15 (lvc s) 42, lobA lb B', boxA b13 (lvc s) 42, lobA la A', boxA ob (opv x1) 50]) (by kernel_rfl) HL9.out (fun hHeld => ?_)
                        clear HL9
                        generalize w9'.drew = wA0 at hHeld ⊢
                        refine wpAnyH_take (i := 0) (oi := _) (v := ?_) rfl (by kernel_rfl) (by kernel_rfl) (by kernel_rfl) (fun _ _ _ h => h) (Or.inl ⟨by rfl, ?_⟩) (by assumption) ?_
                        rotate_left
                        · (intro w hSw; obtain ⟨y0, y1, y2, y3, y4, y5, y6⟩ := lv_cells (hSw.boxGet k2m); go_simp; first | done | (with_reducible rfl))
                        simp only [Act.put, List.getElem_toArray, List.getElem_cons_zero, List.setIfInBounds_toArray, List.set_cons_zero, List.set_cons_succ]
                        refine wpAnyH_take (i := 1) (oi := _) (v := ?_) rfl (by kernel_rfl) (by kernel_rfl) (by kernel_rfl) (fun _ _ _ h => h) (Or.inl ⟨by rfl, ?_⟩) (by assumption) ?_
                        rotate_left
                        · (intro w hSw; obtain ⟨y0, y1, y2, y3, y4, y5, y6⟩ := lv_cells (hSw.boxGet k0m); go_simp; first | done | (with_reducible rfl))
                        simp only [Act.put, List.getElem_toArray, List.getElem_cons_succ, List.getElem_cons_zero, List.setIfInBounds_toArray, List.set_cons_zero, List.set_cons_succ]
                        refine wpAnyH_take (i := 2) (oi := _) (v := .bool false) rfl (by kernel_rfl) (by kernel_rfl) (by kernel_rfl) (fun _ _ _ h => h) (Or.inl ⟨by rfl, ?_⟩) (by assumption) ?_
                        · (intro w hSw; have hE := eq_same s w; go_simp; first | done | (simp; done) | trace_state)
                        simp only [Act.put, List.getElem_toArray, List.getElem_cons_succ, List.getElem_cons_zero, List.setIfInBounds_toArray, List.set_cons_zero, List.set_cons_succ]
                        refine wpAnyH_take (i := 3) (oi := _) (v := ?_) rfl (by kernel_rfl) (by kernel_rfl) (by kernel_rfl) (fun _ _ _ h => h) (Or.inl ⟨by rfl, ?_⟩) (by assumption) ?_
                        rotate_left
                        · (intro w hSw; go_simp; first | done | (with_reducible rfl))
                        simp only [Act.put, List.getElem_toArray, List.getElem_cons_succ, List.getElem_cons_zero, List.setIfInBounds_toArray, List.set_cons_zero, List.set_cons_succ]
                        refine wpAnyH_take (i := 4) (oi := _) (v := ?_) rfl (by kernel_rfl) (by kernel_rfl) (by kernel_rfl) (fun _ _ _ h => h) (Or.inl ⟨by rfl, ?_⟩) (by assumption) ?_
                        rotate_left
                        · (intro w hSw; go_simp; first | done | (with_reducible rfl))
                        simp only [Act.put, List.getElem_toArray, List.getElem_cons_succ, List.getElem_cons_zero, List.setIfInBounds_toArray, List.set_cons_zero, List.set_cons_succ]
                        refine wpAnyH_take (i := 5) (oi := _) (v := ?_) rfl (by kernel_rfl) (by kernel_rfl) (by kernel_rfl) (fun _ _ _ h => h) (Or.inl ⟨by rfl, ?_⟩) (by assumption) ?_
                        rotate_left
                        · (intro w hSw; go_simp; first | done | (with_reducible rfl))
                        simp only [Act.put, List.getElem_toArray, List.getElem_cons_succ, List.getElem_cons_zero, List.setIfInBounds_toArray, List.set_cons_zero, List.set_cons_succ]
                        refine wpAnyH_take (i := 6) (oi := _) (v := .bool false) rfl (by kernel_rfl) (by kernel_rfl) (by kernel_rfl) (fun _ _ _ h => h) (Or.inl ⟨by rfl, ?_⟩) (by assumption) ?_
                        · (intro w hSw; go_simp; first | done | (simp; done) | trace_state)
                        simp only [Act.put, List.getElem_toArray, List.getElem_cons_succ, List.getElem_cons_zero, List.setIfInBounds_toArray, List.set_cons_zero, List.set_cons_succ]
                        refine wpAnyH_take (i := 7) (oi := _) (v := .bool false) rfl (by kernel_rfl) (by kernel_rfl) (by kernel_rfl) (fun _ _ _ h => h) (Or.inl ⟨by rfl, ?_⟩) (by assumption) ?_
                        · (intro w hSw; go_simp; first | done | (simp; done) | trace_state)
                        simp only [Act.put, List.getElem_toArray, List.getElem_cons_succ, List.getElem_cons_zero, List.setIfInBounds_toArray, List.set_cons_zero, List.set_cons_succ]
                        refine wpAnyH_take (i := 8) (oi := _) (v := ?_) rfl (by kernel_rfl) (by kernel_rfl) (by kernel_rfl) (fun _ _ _ h => h) (Or.inl ⟨by rfl, ?_⟩) (by assumption) ?_
                        rotate_left
                        · (intro w hSw; go_simp; first | done | (with_reducible rfl))
                        simp only [Act.put, List.getElem_toArray, List.getElem_cons_succ, List.getElem_cons_zero, List.setIfInBounds_toArray, List.set_cons_zero, List.set_cons_succ]
                        refine wpAnyH_take (i := 9) (oi := _) (v := ?_) rfl (by kernel_rfl) (by kernel_rfl) (by kernel_rfl) (fun _ _ _ h => h) (Or.inl ⟨by rfl, ?_⟩) (by assumption) ?_
                        rotate_left
                        · (intro w hSw; go_simp; first | done | (with_reducible rfl))
                        simp only [Act.put, List.getElem_toArray, List.getElem_cons_succ, List.getElem_cons_zero, List.setIfInBounds_toArray, List.set_cons_zero, List.set_cons_succ]
                        refine wpAnyH_take (i := 10) (oi := _) (v := ?_) rfl (by kernel_rfl) (by kernel_rfl) (by kernel_rfl) (fun _ _ _ h => h) (Or.inl ⟨by rfl, ?_⟩) (by assumption) ?_
                        rotate_left
                        · (intro w hSw; go_simp; first | done | (with_reducible rfl))
                        simp only [Act.put, List.getElem_toArray, List.getElem_cons_succ, List.getElem_cons_zero, List.setIfInBounds_toArray, List.set_cons_zero, List.set_cons_succ]
                        refine wpAnyH_take (i := 11) (oi := _) (v := ?_) rfl (by kernel_rfl) (by kernel_rfl) (by kernel_rfl) (fun _ _ _ h => h) (Or.inl ⟨by rfl, ?_⟩) (by assumption) ?_
                        rotate_left
                        · (intro w hSw; have y7 : w.cell? ⟨ob, 7, none⟩ = some (uv x1.seq) := (hSw.boxGet k4m).cellv 7 _ rfl; go_simp; first | done | (with_reducible rfl))
                        simp only [Act.put, List.getElem_toArray, List.getElem_cons_succ, List.getElem_cons_zero, List.setIfInBounds_toArray, List.set_cons_zero, List.set_cons_succ]
                        refine wpAnyH_take (i := 13) (oi := _) (v := ?_) rfl (by kernel_rfl) (by kernel_rfl) (by kernel_rfl) (fun _ _ _ h => h) (Or.inl ⟨by rfl, ?_⟩) (by assumption) ?_
                        rotate_left
                        · (intro w hSw; go_simp; first | done | (with_reducible rfl))
                        simp only [Act.put, List.getElem_toArray, List.getElem_cons_succ, List.getElem_cons_zero, List.setIfInBounds_toArray, List.set_cons_zero, List.set_cons_succ]
                        refine wpAnyH_take (i := 14) (oi := _) (v := ?_) rfl (by kernel_rfl) (by kernel_rfl) (by kernel_rfl) (fun _ _ _ h => h) (Or.inl ⟨by rfl, ?_⟩) (by assumption) ?_
                        rotate_left
                        · (intro w hSw; go_simp; first | done | (with_reducible rfl))
                        simp only [Act.put, List.getElem_toArray, List.getElem_cons_succ, List.getElem_cons_zero, List.setIfInBounds_toArray, List.set_cons_zero, List.set_cons_succ]
                        refine wpAnyH_take (i := 15) (oi := _) (v := ?_) rfl (by kernel_rfl) (by kernel_rfl) (by kernel_rfl) (fun _ _ _ h => h) (Or.inl ⟨by rfl, ?_⟩) (by assumption) ?_
                        rotate_left
                        · (intro w hSw; have y7 : w.cell? ⟨ob, 7, none⟩ = some (uv x1.seq) := (hSw.boxGet k4m).cellv 7 _ rfl; go_simp; first | done | (with_reducible rfl))
                        simp only [Act.put, List.getElem_toArray, List.getElem_cons_succ, List.getElem_cons_zero, List.setIfInBounds_toArray, List.set_cons_zero, List.set_cons_succ]
                        refine wpAnyH_ready (rs := [12]) (by kernel_rfl) (by simp) ?_
                        refine AllReadyH.cons rfl (fun K hK => ?_) AllReadyH.nil
                        go_simp
                        refine (HC1.out _ hHeld).mono ?_
                        rintro e wA12 ⟨rfl, SA⟩
                        refine hK.out _ _ SA (fun hHeld => ?_)
                        clear hK K
                        refine wpAnyH_ready (rs := [16]) (by kernel_rfl) (by simp) ?_
                        refine AllReadyH.cons rfl (fun K hK => ?_) AllReadyH.nil
                        go_simp
                        refine (HC2.out _ hHeld).mono ?_
                        rintro e wA16 ⟨rfl, SA⟩
                        refine hK.out _ _ SA (fun hHeld => ?_)
                        clear hK K
                        refine wpAnyH_take (i := 17) (oi := _) (v := .bool false) rfl (by kernel_rfl) (by kernel_rfl) (by kernel_rfl) (fun _ _ _ h => h) (Or.inl ⟨by rfl, ?_⟩) (by assumption) ?_
                        · (intro w hSw; go_simp; first | done | (simp; done) | trace_state)
                        simp only [Act.put, List.getElem_toArray, List.getElem_cons_succ, List.getElem_cons_zero, List.setIfInBounds_toArray, List.set_cons_zero, List.set_cons_succ]
                        refine wpAnyH_take (i := 18) (oi := _) (v := .bool false) rfl (by kernel_rfl) (by kernel_rfl) (by kernel_rfl) (fun _ _ _ h => h) (Or.inl ⟨by rfl, ?_⟩) (by assumption) ?_
                        · (intro w hSw; go_simp; first | done | (simp; done) | trace_state)
                        simp only [Act.put, List.getElem_toArray, List.getElem_cons_succ, List.getElem_cons_zero, List.setIfInBounds_toArray, List.set_cons_zero, List.set_cons_succ]
                        refine wpAnyH_take (i := 19) (oi := _) (v := ?_) rfl (by kernel_rfl) (by kernel_rfl) (by kernel_rfl) (fun _ _ _ h => h) (Or.inl ⟨by rfl, ?_⟩) (by assumption) ?_
                        rotate_left
                        · (intro w hSw; go_simp; first | done | (with_reducible rfl))
                        simp only [Act.put, List.getElem_toArray, List.getElem_cons_succ, List.getElem_cons_zero, List.setIfInBounds_toArray, List.set_cons_zero, List.set_cons_succ]
                        refine wpAnyH_take (i := 20) (oi := _) (v := ?_) rfl (by kernel_rfl) (by kernel_rfl) (by kernel_rfl) (fun _ _ _ h => h) (Or.inl ⟨by rfl, ?_⟩) (by assumption) ?_
                        rotate_left
                        · (intro w hSw; go_simp; first | done | (with_reducible rfl))
                        simp only [Act.put, List.getElem_toArray, List.getElem_cons_succ, List.getElem_cons_zero, List.setIfInBounds_toArray, List.set_cons_zero, List.set_cons_succ]
                        refine wpAnyH_take (i := 22) (oi := _) (v := ?_) rfl (by kernel_rfl) (by kernel_rfl) (by kernel_rfl) (fun _ _ _ h => h) (Or.inl ⟨by rfl, ?_⟩) (by assumption) ?_
                        rotate_left
                        · (intro w hSw; go_simp; first | done | (with_reducible rfl))
                        simp only [Act.put, List.getElem_toArray, List.getElem_cons_succ, List.getElem_cons_zero, List.setIfInBounds_toArray, List.set_cons_zero, List.set_cons_succ]
                        refine wpAnyH_ready (rs := [21]) (by kernel_rfl) (by simp) ?_
                        refine AllReadyH.cons rfl (fun K hK => ?_) AllReadyH.nil
                        go_simp
                        refine (HK1.out _ hHeld).mono ?_
                        rintro e wA ⟨rfl, hwA⟩
                        subst hwA
                        refine hK.out _ _ hHeld (fun hHeld => ?_)
                        clear hK K
                        refine wpAnyH_ready (rs := [23]) (by kernel_rfl) (by simp) ?_
                        refine AllReadyH.cons rfl (fun K hK => ?_) AllReadyH.nil
                        go_simp
                        refine (HK2.out _ hHeld).mono ?_
                        rintro e wA ⟨rfl, hwA⟩
                        subst hwA
                        refine hK.out _ _ hHeld (fun hHeld => ?_)
                        clear hK K
                        refine wpAnyH_take (i := 24) (oi := _) (v := .bool false) rfl (by kernel_rfl) (by kernel_rfl) (by kernel_rfl) (fun _ _ _ h => h) (Or.inl ⟨by rfl, ?_⟩) (by assumption) ?_
                        · (intro w hSw; go_simp; first | done | (simp; done) | trace_state)
                        simp only [Act.put, List.getElem_toArray, List.getElem_cons_succ, List.getElem_cons_zero, List.setIfInBounds_toArray, List.set_cons_zero, List.set_cons_succ]
                        refine wpAnyH_take (i := 25) (oi := _) (v := .bool false) rfl (by kernel_rfl) (by kernel_rfl) (by kernel_rfl) (fun _ _ _ h => h) (Or.inl ⟨by rfl, ?_⟩) (by assumption) ?_
                        · (intro w hSw; go_simp; first | done | (simp; done) | trace_state)
                        simp only [Act.put, List.getElem_toArray, List.getElem_cons_succ, List.getElem_cons_zero, List.setIfInBounds_toArray, List.set_cons_zero, List.set_cons_succ]
                        refine wpAnyH_done (by kernel_rfl) ?_ _
                        have HSX : Keep (Sep w _ [lobA la A', lobA lb B']) := ⟨Sep.dropM [lobA la A', lobA lb B'] [boxA b13 (lvc s) 42, boxA ob (opv x1) 50] (l := []) (fr1 [_, _] hHeld.tail)⟩
                        clear HC1 HC2 HK1 HK2
                        go_wp2_with fail
                        go_roundw
                        case rel => exact ⟨i + 1, _, _, by have := HI.out; omega, by have := HI.out; omega, rfl, HSX, HTX⟩
                        case measure => simp [intOf]; have := HI.out; omega
              · by_cases hin : i < n
                · have hi1 : (i : Int) < (n : Nat) := by omega
                  have hi2 : ¬ (i : Int) < 200 := by omega
                  have hs1 := sent_c w wr _ la A 1 hS.out hT.out.oa (by decide)
                  obtain ⟨_, _, _, q4⟩ := hT.out.ask sann 0
                  obtain ⟨av, bv, hsn⟩ := snt_form B 1
                  rw [q4, hsn] at hs1
                  clear q4
                  go_wp2_with fail
                  refine hs1.mono ?_
                  rintro e w2 ⟨rfl, S2⟩
                  have hs2 := sent_c w w2 _ lb B 1 S2.swap hT.out.ob (by decide)
                  rw [hsn] at hs2
                  clear hs1 S2 hsn
                  go_wp2_with fail
                  refine hs2.mono ?_
                  rintro e w3 ⟨rfl, S3⟩
                  have hNx := next_c w w3 _ la (sntX A 1) S3.swap
                  rw [snt_next, hT.out.na, show uv 3 = .int .u64 3 from rfl] at hNx
                  have HG := Keep.mk S3.g
                  clear hs2 S3
                  go_wp2_with fail
                  refine hNx.mono ?_
                  rintro e w4 ⟨rfl, hw4⟩
                  subst hw4
                  clear hNx
                  go_wp2_with fail
                  go_ret
                  exact ⟨rfl, HG.out⟩
                · have hi1 : ¬ (i : Int) < (n : Nat) := by omega
                  have hs1 := sent_c w wr _ la A 1 hS.out hT.out.oa (by decide)
                  obtain ⟨_, _, _, q4⟩ := hT.out.ask sann 0
                  obtain ⟨av, bv, hsn⟩ := snt_form B 1
                  rw [q4, hsn] at hs1
                  clear q4
                  go_wp2_with fail
                  refine hs1.mono ?_
                  rintro e w2 ⟨rfl, S2⟩
                  have hs2 := sent_c w w2 _ lb B 1 S2.swap hT.out.ob (by decide)
                  rw [hsn] at hs2
                  clear hs1 S2 hsn
                  go_wp2_with fail
                  refine hs2.mono ?_
                  rintro e w3 ⟨rfl, S3⟩
                  have hNx := next_c w w3 _ la (sntX A 1) S3.swap
                  rw [snt_next, hT.out.na, show uv 3 = .int .u64 3 from rfl] at hNx
                  have HG := Keep.mk S3.g
                  clear hs2 S3
                  go_wp2_with fail
                  refine hNx.mono ?_
                  rintro e w4 ⟨rfl, hw4⟩
                  subst hw4
                  clear hNx
                  go_wp2_with fail
                  go_ret
                  exact ⟨rfl, HG.out⟩
  · have S6 := S5
    have hc2 : 2 ≤ c.ses := by omega
    obtain ⟨w6, hw6⟩ : ∃ w6, w5 = w6 := ⟨_, rfl⟩
    subst hw6
    obtain ⟨c', hc'⟩ : ∃ c', c = c' := ⟨_, rfl⟩
    rw [hc'] at S6 hc2
    clear S5
    have RNG := Keep.mk (S6.boxGet k0m).range
    have hN : ∀ W l, Sep w W (boxA cb (cfv c' (.slice (some ⟨ab, 0, none⟩) 3 3)).toList 24 :: boxA ab pcs 27 :: l) → Calls Tryd.prog 9 #[.agg (cfv c' (.slice (some ⟨ab, 0, none⟩) 3 3))] W (NwR W (newL c' pP)) := fun W l h => new_c W c' (.slice (some ⟨ab, 0, none⟩) 3 3) pP (pcs_in (h.boxGet k1m)) (HKK.out _ _ h).1
    have HCL : Keep ((cfv c' (.slice (some ⟨ab, 0, none⟩) 3 3)).toList.length = 13) := ⟨rfl⟩
    have hcl : (cfv c' (.slice (some ⟨ab, 0, none⟩) 3 3)) = (cfv c' (.slice (some ⟨ab, 0, none⟩) 3 3)).toList.toArray := rfl
    rw [hcl] at hN
    generalize (cfv c' (.slice (some ⟨ab, 0, none⟩) 3 3)).toList = cl at hN RNG HCL S6
    have hN1 := hN w5 [] S6
    have RNGB := RNG
    have HN := Keep.mk hN
    have HS6 := Keep.mk S6
    clear S6 hN hcl
    cases hX : newL c' pP with
    | none =>
      rw [hX] at hN1
      go_wp2_with (first
        | (show wpList _ _ _ ({ dst := _, op := Op.load 24 _, type := _, pos := _, after := _, guard := _ } :: _) _ _
           first | refine wpList_load_mid rfl 24 _ rfl _ _ rfl _ _ RNG.out hdu hdr (by rw [HCL.out]; exact info24) ?_ | refine wpList_load_mid rfl 24 _ rfl _ _ rfl _ _ RNGB.out hdu hdr (by rw [HCL.out]; exact info24) ?_))
      refine hN1.mono ?_
      rintro e w7 ⟨rfl, g7⟩
      have S7 := HS6.out.grown g7
      have hN2 := HN.out _ _ S7
      rw [hX] at hN2
      replace RNG := Keep.mk (S7.boxGet k0m).range
      have HS7 := Keep.mk S7
      clear S7 g7 hN1 HS6
      go_wp2_with (first
        | (show wpList _ _ _ ({ dst := _, op := Op.load 24 _, type := _, pos := _, after := _, guard := _ } :: _) _ _
           first | refine wpList_load_mid rfl 24 _ rfl _ _ rfl _ _ RNG.out hdu hdr (by rw [HCL.out]; exact info24) ?_ | refine wpList_load_mid rfl 24 _ rfl _ _ rfl _ _ RNGB.out hdu hdr (by rw [HCL.out]; exact info24) ?_))
      refine hN2.mono ?_
      rintro e w8 ⟨rfl, g8⟩
      have HG := Keep.mk (HS7.out.g.trans g8)
      clear hN2 g8 HS7
      go_wp2_with fail
      go_ret
      exact ⟨rfl, HG.out⟩
    | some X =>
      rw [hX] at hN1
      go_wp2_with (first
        | (show wpList _ _ _ ({ dst := _, op := Op.load 24 _, type := _, pos := _, after := _, guard := _ } :: _) _ _
           first | refine wpList_load_mid rfl 24 _ rfl _ _ rfl _ _ RNG.out hdu hdr (by rw [HCL.out]; exact info24) ?_ | refine wpList_load_mid rfl 24 _ rfl _ _ rfl _ _ RNGB.out hdu hdr (by rw [HCL.out]; exact info24) ?_))
      refine hN1.mono ?_
      rintro e w7 ⟨la, rfl, S7'⟩
      have S7 : Sep w w7 (boxA cb cl 24 :: boxA ab pcs 27 :: lobA la X :: []) := by
        have h := HS6.out.ovr S7'
        exact h.swap.perm (List.Perm.cons _ (List.Perm.swap _ _ _))
      have hN2 := HN.out _ _ S7
      rw [hX] at hN2
      replace RNG := Keep.mk (S7.boxGet k0m).range
      have HS7 := Keep.mk S7
      clear S7 S7' hN1 HS6
      go_wp2_with (first
        | (show wpList _ _ _ ({ dst := _, op := Op.load 24 _, type := _, pos := _, after := _, guard := _ } :: _) _ _
           first | refine wpList_load_mid rfl 24 _ rfl _ _ rfl _ _ RNG.out hdu hdr (by rw [HCL.out]; exact info24) ?_ | refine wpList_load_mid rfl 24 _ rfl _ _ rfl _ _ RNGB.out hdu hdr (by rw [HCL.out]; exact info24) ?_))
      refine hN2.mono ?_
      rintro e w8 ⟨lb, rfl, S8'⟩
      have HS8 : Keep (Sep w w8 [lobA la (jn X 0), lobA lb (jn X 0)]) := ⟨by
        have h : Sep w w8 (lobA lb X :: boxA cb cl 24 :: boxA ab pcs 27 :: lobA la X :: []) := HS7.out.ovr S8'
        exact ((h.swap.tail).swap.tail).swap⟩
      obtain ⟨j1, j2, j3, j4, j5⟩ := ann_bob hX hc2 sann sbob sn ss (by decide) (by decide)
      have HJ0 : Keep (LbOk (jn X 0) ∧ (jn X 0).next = 1) := ⟨j1, j2⟩
      have HJ1 : Keep (LbOk (jn X 1) ∧ (jn X 1).next = 2) := ⟨j3, j4⟩
      have HTW : Keep (Tw (jn X 2) (jn X 2)) := ⟨j5⟩
      clear hN2 S8' HS7 RNG HN HCL hX j1 j2 j3 j4 j5
      go_wp2_with fail
      go_loopw [9] (fun u wr => ∃ i : Nat, i ≤ 2 ∧ u = iv i ∧ Keep (Sep w wr [lobA la (jn X i), lobA lb (jn X i)])) (fun u _ => (2 - intOf u).toNat)
      case atStart => exact ⟨0, by omega, rfl, HS8⟩
      case round =>
        clear HS8
        obtain ⟨i, hi, rfl, hS⟩ := hrel
        by_cases hi0 : i = 0
        · subst hi0
          have S8 := hS.out.newBox #[.string sann, .string sbob] 9
          obtain ⟨w8, hw8⟩ : ∃ w8, wr.alloc (.cells #[.string sann, .string sbob] 9) = w8 := ⟨_, rfl⟩
          obtain ⟨sb, hsb⟩ : ∃ sb, wr.heap.size = sb := ⟨_, rfl⟩
          rw [hw8, hsb] at S8
          have n0 : w8.cell? ⟨sb, 0, none⟩ = some (.string sann) := (S8.boxGet k0m).cellv 0 _ rfl
          have hJ := join_c w w8 _ la (jn X 0) sann sn ss sann 9 S8.tail HJ0.out.1 (HKK.out _ _ S8).1 HNK.out.2.1 (by decide) (by decide) (by decide) (by decide) (by rw [HJ0.out.2]; decide)
          clear S8 hS
          go_wp2_with fail
          refine hJ.mono ?_
          rintro e w9 ⟨rfl, S9⟩
          have hJ2 := join_c w w9 _ lb (jn X 0) sann sn ss sann 9 S9.swap HJ0.out.1 (HKK.out _ _ S9).1 HNK.out.2.1 (by decide) (by decide) (by decide) (by decide) (by rw [HJ0.out.2]; decide)
          clear hJ S9 n0 hw8 hsb
          go_wp2_with fail
          refine hJ2.mono ?_
          rintro e w10 ⟨rfl, S10⟩
          have HS10 : Keep (Sep w w10 [lobA la (jn X 1), lobA lb (jn X 1)]) := ⟨S10.swap⟩
          clear hJ2 S10
          go_wp2_with fail
          exact ⟨⟨1, by omega, rfl, HS10⟩, by simp only [intOf]; omega⟩
        · by_cases hi1 : i = 1
          · subst hi1
            have S8 := hS.out.newBox #[.string sann, .string sbob] 9
            obtain ⟨w8, hw8⟩ : ∃ w8, wr.alloc (.cells #[.string sann, .string sbob] 9) = w8 := ⟨_, rfl⟩
            obtain ⟨sb, hsb⟩ : ∃ sb, wr.heap.size = sb := ⟨_, rfl⟩
            rw [hw8, hsb] at S8
            have n1 : w8.cell? ⟨sb, 1, none⟩ = some (.string sbob) := (S8.boxGet k0m).cellv 1 _ rfl
            have hJ := join_c w w8 _ la (jn X 1) sbob sn ss sbob 9 S8.tail HJ1.out.1 (HKK.out _ _ S8).1 HNK.out.2.1 (by decide) (by decide) (by decide) (by decide) (by rw [HJ1.out.2]; decide)
            clear S8 hS
            go_wp2_with fail
            refine hJ.mono ?_
            rintro e w9 ⟨rfl, S9⟩
            have hJ2 := join_c w w9 _ lb (jn X 1) sbob sn ss sbob 9 S9.swap HJ1.out.1 (HKK.out _ _ S9).1 HNK.out.2.1 (by decide) (by decide) (by decide) (by decide) (by rw [HJ1.out.2]; decide)
            clear hJ S9 n1 hw8 hsb
            go_wp2_with fail
            refine hJ2.mono ?_
            rintro e w10 ⟨rfl, S10⟩
            have HS10 : Keep (Sep w w10 [lobA la (jn X 2), lobA lb (jn X 2)]) := ⟨S10.swap⟩
            clear hJ2 S10
            go_wp2_with fail
            exact ⟨⟨2, by omega, rfl, HS10⟩, by simp only [intOf]; omega⟩
          · have hi2 : i = 2 := by omega
            rw [hi2] at hS
            have hnl : ¬ (i : Int) < 2 := by omega
            clear HJ0 HJ1 hi0 hi1 hi2 hi
            go_wp2_with fail
            go_loopw [11] (fun u wr => ∃ (i : Nat) (A B : Lb), i ≤ n ∧ i ≤ 200 ∧ u = iv i ∧ Keep (Sep w wr [lobA la A, lobA lb B]) ∧ Keep (Tw A B)) (fun u _ => (200 - intOf u).toNat)
            case atStart => exact ⟨0, _, _, by omega, by omega, rfl, hS, HTW⟩
            case round =>
              clear hS HTW
              clear hnl
              obtain ⟨i, A, B, hi, h200, rfl, hS, hT⟩ := hrel
              by_cases hlt : i < n ∧ i < 200
              · obtain ⟨hl1, hl2⟩ := hlt
                have hSR := HNK.out.2.2.1.kept hS.out.g
                obtain ⟨a', cap', e, hq⟩ := hSR.o
                rw [HNK.out.2.2.2] at e hq
                injection e with e1' e2' e3'
                obtain ⟨g, og, hg, hq⟩ := hq (by omega)
                rw [← e1'] at hg
                subst hg
                obtain ⟨x, hx⟩ : ∃ x, L[i]? = some x := ⟨_, List.getElem?_eq_getElem (by rw [HNK.out.2.2.2]; exact hl1)⟩
                have HRG := Keep.mk (hq i x hx)
                have HXO := Keep.mk (hSR.s x (List.mem_of_getElem? hx))
                have hi0 : (0 : Int) ≤ (i : Int) := by omega
                have hi1 : (i : Int) < (n : Nat) := by omega
                have hi2 : (i : Int) < 200 := by omega
                have hti : ((i : Nat) : Int).toNat = i := by omega
                have hwi : IntKind.i64.wrap ((i : Int) + 1) = ((i + 1 : Nat) : Int) := by rw [wi _ (by omega) (by omega)]; omega
                have HI : Keep (i < n ∧ i < 200) := ⟨hl1, hl2⟩
                clear hSR hq e1' e2' e3' hx hl1 hl2 hi h200
                go_wp2_with (first
                  | (show wpList _ _ _ ({ dst := _, op := Op.load 50 _, type := _, pos := _, after := _, guard := _ } :: _) _ _
                     first | refine wpList_load_mid rfl 50 _ rfl _ _ rfl _ _ HRG.out hdu5 hdr5 (by exact info50) ?_ | refine wpList_load_mid rfl 50 _ rfl _ _ rfl _ _ HRGB.out hdu5 hdr5 (by exact info50) ?_)
                  | (show wpList _ _ _ ({ dst := _, op := Op.store 50 _ _, type := _, pos := _, after := _, guard := _ } :: _) _ _
                     refine store_new _ (opv x) 50 rfl rfl rfl rfl rfl (by exact info50) (opv_one1 x) ?_))
                intro w2 hS2 g2
                have S2 := hS2 w _ hS.out
                generalize wr.heap.size = ob at S2 ⊢
                have d0 : w2.cell? ⟨ob, 0, none⟩ = some (iv x.kd) := (S2.boxGet k0m).cellv 0 _ rfl
                have d6 : w2.cell? ⟨ob, 6, none⟩ = some (uv x.ses) := (S2.boxGet k0m).cellv 6 _ rfl
                have f6 : w2.frozen? ⟨ob, 6, none⟩ = false := (S2.boxGet k0m).frozen 6
                have HS2 := Keep.mk S2
                clear hS2 g2 S2 hS HRG
                by_cases e7 : x.kd = 7
                · rw [e7] at d0
                  have hR1 := refill_c w w2 _ la A HS2.out.swap hT.out.oa
                  clear HS2
                  go_wp2_with fail
                  refine hR1.mono ?_
                  rintro e w3 ⟨rfl, S3⟩
                  have hR2 := refill_c w w3 _ lb B S3.third hT.out.ob
                  clear hR1 S3 d0 d6 f6
                  go_wp2_with fail
                  refine hR2.mono ?_
                  rintro e w4 ⟨rfl, S4⟩
                  have HSX : Keep (Sep w w4 [lobA la (refX A), lobA lb (refX B)]) := ⟨(S4.third.tail).swap⟩
                  have HTX := Keep.mk hT.out.refill
                  clear hR2 S4
                  go_wp2_with fail
                  go_roundw
                  case rel => exact ⟨i + 1, _, _, by have := HI.out; omega, by have := HI.out; omega, rfl, HSX, HTX⟩
                  case measure => simp [intOf]; have := HI.out; omega
                · by_cases e6 : x.kd = 6
                  · rw [e6] at d0
                    have HSX := Keep.mk HS2.out.tail
                    have HTX := hT
                    clear HS2
                    go_wp2_with fail
                    go_roundw
                    case rel => exact ⟨i + 1, _, _, by have := HI.out; omega, by have := HI.out; omega, rfl, HSX, HTX⟩
                    case measure => simp [intOf]; have := HI.out; omega
                  · by_cases e1 : x.kd = 1
                    · rw [e1] at d0
                      have HSX := Keep.mk HS2.out.tail
                      have HTX := hT
                      clear HS2
                      go_wp2_with fail
                      go_roundw
                      case rel => exact ⟨i + 1, _, _, by have := HI.out; omega, by have := HI.out; omega, rfl, HSX, HTX⟩
                      case measure => simp [intOf]; have := HI.out; omega
                    · have n7 : decide (x.kd = 7) = false := decide_eq_false e7
                      have n6 : decide (x.kd = 6) = false := decide_eq_false e6
                      have n1 : decide (x.kd = 1) = false := decide_eq_false e1
                      have b7 : (x.kd == 7) = false := by simpa using e7
                      have b6 : (x.kd == 6) = false := by simpa using e6
                      have b1 : (x.kd == 1) = false := by simpa using e1
                      by_cases hm : x.ses % 2 = 0
                      · have S3 := HS2.out.boxPut 6 (.int .u64 2)
                        rw [show (opv x).set 6 (.int .u64 2) = opv { x with ses := 2 } from rfl] at S3
                        obtain ⟨w3, hw3⟩ : ∃ w3, w2.setCell ⟨ob, 6, none⟩ (.int .u64 2) = w3 := ⟨_, rfl⟩
                        rw [hw3] at S3
                        have hxo : OpOk { x with ses := 2 } := ⟨HXO.out.a, HXO.out.b, HXO.out.c, HXO.out.nm, by show 2 < _; decide, HXO.out.seq, HXO.out.tick⟩
                        have hAc := acts_c w w3 _ la A { x with ses := 2 } S3.swap hT.out.oa hT.out.ua HNK.out.1 HNK.out.2.1 hxo (by rw [hT.out.na]; decide)
                        have HTX := Keep.mk (hT.out.two (o := { x with ses := 2 }) hxo e1 e6 e7 rfl)
                        have RR := Keep.mk (S3.boxGet k0m).range
                        have RRB : Keep ((w2.setCell ⟨ob, 6, none⟩ (.int .u64 2)).rangeAt ob 0 (opv { x with ses := 2 })) := ⟨by rw [hw3]; exact RR.out⟩
                        have hm2 : (x.ses : Int) % 2 = 0 := by omega
                        clear S3 HS2 hxo
                        go_wp2_with (first
                          | (show wpList _ _ _ ({ dst := _, op := Op.load 50 _, type := _, pos := _, after := _, guard := _ } :: _) _ _
                             first | refine wpList_load_mid rfl 50 _ rfl _ _ rfl _ _ RR.out hdu5 hdr5 (by exact info50) ?_ | refine wpList_load_mid rfl 50 _ rfl _ _ rfl _ _ RRB.out hdu5 hdr5 (by exact info50) ?_))
                        refine hAc.mono ?_
                        rintro e w4 ⟨rfl, S4⟩
                        have HSX : Keep (Sep w w4 [lobA la (actX A { x with ses := 2 }), lobA lb B]) := ⟨S4.swap.tail⟩
                        clear hAc S4 RR RRB
                        go_wp2_with fail
                        go_roundw
                        case rel => exact ⟨i + 1, _, _, by have := HI.out; omega, by have := HI.out; omega, rfl, HSX, HTX⟩
                        case measure => simp [intOf]; have := HI.out; omega
                      · have S3 := HS2.out.boxPut 6 (.int .u64 1)
                        rw [show (opv x).set 6 (.int .u64 1) = opv { x with ses := 1 } from rfl] at S3
                        obtain ⟨w3, hw3⟩ : ∃ w3, w2.setCell ⟨ob, 6, none⟩ (.int .u64 1) = w3 := ⟨_, rfl⟩
                        rw [hw3] at S3
                        have hxo : OpOk { x with ses := 1 } := ⟨HXO.out.a, HXO.out.b, HXO.out.c, HXO.out.nm, by show 1 < _; decide, HXO.out.seq, HXO.out.tick⟩
                        have HTX := Keep.mk (hT.out.one (o := { x with ses := 1 }) hxo e1 e6 rfl)
                        have hAc := acts_c w w3 _ la A { x with ses := 1 } S3.swap hT.out.oa hT.out.ua HNK.out.1 HNK.out.2.1 hxo (by rw [hT.out.na]; decide)
                        have RR := Keep.mk (S3.boxGet k0m).range
                        have hm2 : ¬ (x.ses : Int) % 2 = 0 := by omega
                        have HXQ : Keep (x.seq < 18446744073709551616) := ⟨HXO.out.seq⟩
                        obtain ⟨x1, hx1⟩ : ∃ x1 : Opr, { x with ses := 1 } = x1 := ⟨_, rfl⟩
                        have HSQ : Keep (x1.seq = x.seq) := ⟨by rw [← hx1]⟩
                        rw [hx1] at hAc RR HTX hxo S3
                        have RRB : Keep ((w2.setCell ⟨ob, 6, none⟩ (.int .u64 1)).rangeAt ob 0 (opv x1)) := ⟨by rw [hw3]; exact RR.out⟩
                        clear S3 HS2
                        go_wp2_with (first
                          | (show wpList _ _ _ ({ dst := _, op := Op.load 50 _, type := _, pos := _, after := _, guard := _ } :: _) _ _
                             first | refine wpList_load_mid rfl 50 _ rfl _ _ rfl _ _ RR.out hdu5 hdr5 (by exact info50) ?_ | refine wpList_load_mid rfl 50 _ rfl _ _ rfl _ _ RRB.out hdu5 hdr5 (by exact info50) ?_))
                        refine hAc.mono ?_
                        rintro e w4 ⟨rfl, S4⟩
                        have hAc2 := acts_c w w4 _ lb B x1 S4.third hT.out.ob hT.out.ub HNK.out.1 HNK.out.2.1 hxo (by rw [hT.out.nb]; decide)
                        replace RR := Keep.mk (S4.boxGet k1m).range
                        clear hAc S4 d0 d6 f6 hw3
                        go_wp2_with (first
                          | (show wpList _ _ _ ({ dst := _, op := Op.load 50 _, type := _, pos := _, after := _, guard := _ } :: _) _ _
                             first | refine wpList_load_mid rfl 50 _ rfl _ _ rfl _ _ RR.out hdu5 hdr5 (by exact info50) ?_ | refine wpList_load_mid rfl 50 _ rfl _ _ rfl _ _ RRB.out hdu5 hdr5 (by exact info50) ?_))
                        refine hAc2.mono ?_
                        rintro e w5' ⟨rfl, S5⟩
                        generalize actX A x1 = A' at S5 HTX
                        generalize actX B x1 = B' at S5 HTX
                        obtain ⟨q1, q2, q3, _⟩ := HTX.out.ask sann x1.seq
                        obtain ⟨s, hs⟩ := fnd_lv B' 1 sann
                        obtain ⟨er, her⟩ : ∃ er, (fndS B' 1 sann).2 = er := ⟨_, rfl⟩
                        have hF := fnd_c w w5' _ la A' 1 sann S5.swap HTX.out.oa (by decide)
                        rw [q1, hs, her] at hF
                        clear hAc2 S5 RR RRB
                        go_wp2_with fail
                        refine hF.mono ?_
                        rintro e w6' ⟨rfl, S6⟩
                        have HS6 := Keep.mk S6
                        clear hF S6
                        go_wp2_with (first
                          | (show wpList _ _ _ ({ dst := _, op := Op.store 42 _ _, type := _, pos := _, after := _, guard := _ } :: _) _ _
                             refine store_new _ (lvc s) 42 rfl rfl rfl rfl rfl (by exact info42) (lvc_one _) ?_))
                        intro w7' hS7 g7
                        have S7 := hS7 w _ HS6.out
                        generalize w6'.heap.size = b13 at S7 ⊢
                        have hF2 := fnd_c w w7' _ lb B' 1 sann (S7.perm (List.Perm.trans (List.Perm.cons _ (List.Perm.swap _ _ _)) (List.Perm.swap _ _ _))) HTX.out.ob (by decide)
                        rw [hs, her] at hF2
                        clear hS7 g7 HS6 S7
                        go_wp2_with fail
                        refine hF2.mono ?_
                        rintro e w8' ⟨rfl, S8⟩
                        have HS8 := Keep.mk S8
                        clear hF2 S8
                        go_wp2_with (first
                          | (show wpList _ _ _ ({ dst := _, op := Op.store 42 _ _, type := _, pos := _, after := _, guard := _ } :: _) _ _
                             refine store_new _ (lvc s) 42 rfl rfl rfl rfl rfl (by exact info42) (lvc_one _) ?_))
                        intro w9' hS9 g9
                        have S9 := hS9 w _ HS8.out
                        generalize w8'.heap.size = b15 at S9 ⊢
                        clear hS9 g9 HS8
                        go_wp2_with fail
                        obtain ⟨cr, hcr⟩ : ∃ cr, chkS B' 1 x1.seq = cr := ⟨_, rfl⟩
                        obtain ⟨tb, htb⟩ : ∃ tb, tokS B' 1 = tb := ⟨_, rfl⟩
                        have HC1 : Keep (∀ W, Sep w W [boxA b15 (lvc s) 42, lobA lb B', boxA b13 (lvc s) 42, lobA la A', boxA ob (opv x1) 50] → Calls Tryd.prog 23 #[pt la, .int .u64 1, uv x1.seq] W fun e W' => e = .returned (iv cr) ∧ Sep w W' [boxA b15 (lvc s) 42, lobA lb B', boxA b13 (lvc s) 42, lobA la A', boxA ob (opv x1) 50]) := ⟨fun W h => by
                          have q := chk_c w W _ la A' 1 x1.seq (fr1 [_, _, _] h) HTX.out.oa (by decide) (by rw [HSQ.out]; exact HXQ.out)
                          rw [q2, hcr] at q
                          exact q.mono fun e W' ⟨he, hw⟩ => ⟨he, bk1 [_, _, _] hw⟩⟩
                        have HC2 : Keep (∀ W, Sep w W [boxA b15 (lvc s) 42, lobA lb B', boxA b13 (lvc s) 42, lobA la A', boxA ob (opv x1) 50] → Calls Tryd.prog 23 #[pt lb, .int .u64 1, uv x1.seq] W fun e W' => e = .returned (iv cr) ∧ Sep w W' [boxA b15 (lvc s) 42, lobA lb B', boxA b13 (lvc s) 42, lobA la A', boxA ob (opv x1) 50]) := ⟨fun W h => by
                          have q := chk_c w W _ lb B' 1 x1.seq h.swap HTX.out.ob (by decide) (by rw [HSQ.out]; exact HXQ.out)
                          rw [hcr] at q
                          exact q.mono fun e W' ⟨he, hw⟩ => ⟨he, hw.swap⟩⟩
                        have HK1 : Keep (∀ W, Sep w W [boxA b15 (lvc s) 42, lobA lb B', boxA b13 (lvc s) 42, lobA la A', boxA ob (opv x1) 50] → Calls Tryd.prog 22 #[pt la, .int .u64 1] W fun e W' => e = .returned (.bool tb) ∧ W' = W) := ⟨fun W h => by
                          have q := tok_c w W _ la A' 1 (fr1 [_, _, _] h) HTX.out.oa (by decide)
                          rw [q3, htb] at q
                          exact q⟩
                        have HK2 : Keep (∀ W, Sep w W [boxA b15 (lvc s) 42, lobA lb B', boxA b13 (lvc s) 42, lobA la A', boxA ob (opv x1) 50] → Calls Tryd.prog 22 #[pt lb, .int .u64 1] W fun e W' => e = .returned (.bool tb) ∧ W' = W) := ⟨fun W h => by
                          have q := tok_c w W _ lb B' 1 h.swap HTX.out.ob (by decide)
                          rw [htb] at q
                          exact q⟩
                        have HL9 := Keep.mk (S9.grown (gr_drew w9' none))
                        clear q1 q2 q3 hs her hcr htb S9
                        refine wp_region_held_drew (S := fun w' => Sep w w' [boxA b15 (lvc s) 42, lobA lb B', boxA b13 (lvc s) 42, lobA la A', boxA ob (opv x1) 50]) (by kernel_rfl) HL9.out (fun hHeld => ?_)
                        clear HL9
                        generalize w9'.drew = wA0 at hHeld ⊢
                        refine wpAnyH_take (i := 0) (oi := _) (v := ?_) rfl (by kernel_rfl) (by kernel_rfl) (by kernel_rfl) (fun _ _ _ h => h) (Or.inl ⟨by rfl, ?_⟩) (by assumption) ?_
                        rotate_left
                        · (intro w hSw; obtain ⟨y0, y1, y2, y3, y4, y5, y6⟩ := lv_cells (hSw.boxGet k2m); go_simp; first | done | (with_reducible rfl))
                        simp only [Act.put, List.getElem_toArray, List.getElem_cons_zero, List.setIfInBounds_toArray, List.set_cons_zero, List.set_cons_succ]
                        refine wpAnyH_take (i := 1) (oi := _) (v := ?_) rfl (by kernel_rfl) (by kernel_rfl) (by kernel_rfl) (fun _ _ _ h => h) (Or.inl ⟨by rfl, ?_⟩) (by assumption) ?_
                        rotate_left
                        · (intro w hSw; obtain ⟨y0, y1, y2, y3, y4, y5, y6⟩ := lv_cells (hSw.boxGet k0m); go_simp; first | done | (with_reducible rfl))
                        simp only [Act.put, List.getElem_toArray, List.getElem_cons_succ, List.getElem_cons_zero, List.setIfInBounds_toArray, List.set_cons_zero, List.set_cons_succ]
                        refine wpAnyH_take (i := 2) (oi := _) (v := .bool false) rfl (by kernel_rfl) (by kernel_rfl) (by kernel_rfl) (fun _ _ _ h => h) (Or.inl ⟨by rfl, ?_⟩) (by assumption) ?_
                        · (intro w hSw; have hE := eq_same s w; go_simp; first | done | (simp; done) | trace_state)
                        simp only [Act.put, List.getElem_toArray, List.getElem_cons_succ, List.getElem_cons_zero, List.setIfInBounds_toArray, List.set_cons_zero, List.set_cons_succ]
                        refine wpAnyH_take (i := 3) (oi := _) (v := ?_) rfl (by kernel_rfl) (by kernel_rfl) (by kernel_rfl) (fun _ _ _ h => h) (Or.inl ⟨by rfl, ?_⟩) (by assumption) ?_
                        rotate_left
                        · (intro w hSw; go_simp; first | done | (with_reducible rfl))
                        simp only [Act.put, List.getElem_toArray, List.getElem_cons_succ, List.getElem_cons_zero, List.setIfInBounds_toArray, List.set_cons_zero, List.set_cons_succ]
                        refine wpAnyH_take (i := 4) (oi := _) (v := ?_) rfl (by kernel_rfl) (by kernel_rfl) (by kernel_rfl) (fun _ _ _ h => h) (Or.inl ⟨by rfl, ?_⟩) (by assumption) ?_
                        rotate_left
                        · (intro w hSw; go_simp; first | done | (with_reducible rfl))
                        simp only [Act.put, List.getElem_toArray, List.getElem_cons_succ, List.getElem_cons_zero, List.setIfInBounds_toArray, List.set_cons_zero, List.set_cons_succ]
                        refine wpAnyH_take (i := 5) (oi := _) (v := ?_) rfl (by kernel_rfl) (by kernel_rfl) (by kernel_rfl) (fun _ _ _ h => h) (Or.inl ⟨by rfl, ?_⟩) (by assumption) ?_
                        rotate_left
                        · (intro w hSw; go_simp; first | done | (with_reducible rfl))
                        simp only [Act.put, List.getElem_toArray, List.getElem_cons_succ, List.getElem_cons_zero, List.setIfInBounds_toArray, List.set_cons_zero, List.set_cons_succ]
                        refine wpAnyH_take (i := 6) (oi := _) (v := .bool false) rfl (by kernel_rfl) (by kernel_rfl) (by kernel_rfl) (fun _ _ _ h => h) (Or.inl ⟨by rfl, ?_⟩) (by assumption) ?_
                        · (intro w hSw; go_simp; first | done | (simp; done) | trace_state)
                        simp only [Act.put, List.getElem_toArray, List.getElem_cons_succ, List.getElem_cons_zero, List.setIfInBounds_toArray, List.set_cons_zero, List.set_cons_succ]
                        refine wpAnyH_take (i := 7) (oi := _) (v := .bool false) rfl (by kernel_rfl) (by kernel_rfl) (by kernel_rfl) (fun _ _ _ h => h) (Or.inl ⟨by rfl, ?_⟩) (by assumption) ?_
                        · (intro w hSw; go_simp; first | done | (simp; done) | trace_state)
                        simp only [Act.put, List.getElem_toArray, List.getElem_cons_succ, List.getElem_cons_zero, List.setIfInBounds_toArray, List.set_cons_zero, List.set_cons_succ]
                        refine wpAnyH_take (i := 8) (oi := _) (v := ?_) rfl (by kernel_rfl) (by kernel_rfl) (by kernel_rfl) (fun _ _ _ h => h) (Or.inl ⟨by rfl, ?_⟩) (by assumption) ?_
                        rotate_left
                        · (intro w hSw; go_simp; first | done | (with_reducible rfl))
                        simp only [Act.put, List.getElem_toArray, List.getElem_cons_succ, List.getElem_cons_zero, List.setIfInBounds_toArray, List.set_cons_zero, List.set_cons_succ]
                        refine wpAnyH_take (i := 9) (oi := _) (v := ?_) rfl (by kernel_rfl) (by kernel_rfl) (by kernel_rfl) (fun _ _ _ h => h) (Or.inl ⟨by rfl, ?_⟩) (by assumption) ?_
                        rotate_left
                        · (intro w hSw; go_simp; first | done | (with_reducible rfl))
                        simp only [Act.put, List.getElem_toArray, List.getElem_cons_succ, List.getElem_cons_zero, List.setIfInBounds_toArray, List.set_cons_zero, List.set_cons_succ]
                        refine wpAnyH_take (i := 10) (oi := _) (v := ?_) rfl (by kernel_rfl) (by kernel_rfl) (by kernel_rfl) (fun _ _ _ h => h) (Or.inl ⟨by rfl, ?_⟩) (by assumption) ?_
                        rotate_left
                        · (intro w hSw; go_simp; first | done | (with_reducible rfl))
                        simp only [Act.put, List.getElem_toArray, List.getElem_cons_succ, List.getElem_cons_zero, List.setIfInBounds_toArray, List.set_cons_zero, List.set_cons_succ]
                        refine wpAnyH_take (i := 11) (oi := _) (v := ?_) rfl (by kernel_rfl) (by kernel_rfl) (by kernel_rfl) (fun _ _ _ h => h) (Or.inl ⟨by rfl, ?_⟩) (by assumption) ?_
                        rotate_left
                        · (intro w hSw; have y7 : w.cell? ⟨ob, 7, none⟩ = some (uv x1.seq) := (hSw.boxGet k4m).cellv 7 _ rfl; go_simp; first | done | (with_reducible rfl))
                        simp only [Act.put, List.getElem_toArray, List.getElem_cons_succ, List.getElem_cons_zero, List.setIfInBounds_toArray, List.set_cons_zero, List.set_cons_succ]
                        refine wpAnyH_take (i := 13) (oi := _) (v := ?_) rfl (by kernel_rfl) (by kernel_rfl) (by kernel_rfl) (fun _ _ _ h => h) (Or.inl ⟨by rfl, ?_⟩) (by assumption) ?_
                        rotate_left
                        · (intro w hSw; go_simp; first | done | (with_reducible rfl))
                        simp only [Act.put, List.getElem_toArray, List.getElem_cons_succ, List.getElem_cons_zero, List.setIfInBounds_toArray, List.set_cons_zero, List.set_cons_succ]
                        refine wpAnyH_take (i := 14) (oi := _) (v := ?_) rfl (by kernel_rfl) (by kernel_rfl) (by kernel_rfl) (fun _ _ _ h => h) (Or.inl ⟨by rfl, ?_⟩) (by assumption) ?_
                        rotate_left
                        · (intro w hSw; go_simp; first | done | (with_reducible rfl))
                        simp only [Act.put, List.getElem_toArray, List.getElem_cons_succ, List.getElem_cons_zero, List.setIfInBounds_toArray, List.set_cons_zero, List.set_cons_succ]
                        refine wpAnyH_take (i := 15) (oi := _) (v := ?_) rfl (by kernel_rfl) (by kernel_rfl) (by kernel_rfl) (fun _ _ _ h => h) (Or.inl ⟨by rfl, ?_⟩) (by assumption) ?_
                        rotate_left
                        · (intro w hSw; have y7 : w.cell? ⟨ob, 7, none⟩ = some (uv x1.seq) := (hSw.boxGet k4m).cellv 7 _ rfl; go_simp; first | done | (with_reducible rfl))
                        simp only [Act.put, List.getElem_toArray, List.getElem_cons_succ, List.getElem_cons_zero, List.setIfInBounds_toArray, List.set_cons_zero, List.set_cons_succ]
                        refine wpAnyH_ready (rs := [12]) (by kernel_rfl) (by simp) ?_
                        refine AllReadyH.cons rfl (fun K hK => ?_) AllReadyH.nil
                        go_simp
                        refine (HC1.out _ hHeld).mono ?_
                        rintro e wA12 ⟨rfl, SA⟩
                        refine hK.out _ _ SA (fun hHeld => ?_)
                        clear hK K
                        refine wpAnyH_ready (rs := [16]) (by kernel_rfl) (by simp) ?_
                        refine AllReadyH.cons rfl (fun K hK => ?_) AllReadyH.nil
                        go_simp
                        refine (HC2.out _ hHeld).mono ?_
                        rintro e wA16 ⟨rfl, SA⟩
                        refine hK.out _ _ SA (fun hHeld => ?_)
                        clear hK K
                        refine wpAnyH_take (i := 17) (oi := _) (v := .bool false) rfl (by kernel_rfl) (by kernel_rfl) (by kernel_rfl) (fun _ _ _ h => h) (Or.inl ⟨by rfl, ?_⟩) (by assumption) ?_
                        · (intro w hSw; go_simp; first | done | (simp; done) | trace_state)
                        simp only [Act.put, List.getElem_toArray, List.getElem_cons_succ, List.getElem_cons_zero, List.setIfInBounds_toArray, List.set_cons_zero, List.set_cons_succ]
                        refine wpAnyH_take (i := 18) (oi := _) (v := .bool false) rfl (by kernel_rfl) (by kernel_rfl) (by kernel_rfl) (fun _ _ _ h => h) (Or.inl ⟨by rfl, ?_⟩) (by assumption) ?_
                        · (intro w hSw; go_simp; first | done | (simp; done) | trace_state)
                        simp only [Act.put, List.getElem_toArray, List.getElem_cons_succ, List.getElem_cons_zero, List.setIfInBounds_toArray, List.set_cons_zero, List.set_cons_succ]
                        refine wpAnyH_take (i := 19) (oi := _) (v := ?_) rfl (by kernel_rfl) (by kernel_rfl) (by kernel_rfl) (fun _ _ _ h => h) (Or.inl ⟨by rfl, ?_⟩) (by assumption) ?_
                        rotate_left
                        · (intro w hSw; go_simp; first | done | (with_reducible rfl))
                        simp only [Act.put, List.getElem_toArray, List.getElem_cons_succ, List.getElem_cons_zero, List.setIfInBounds_toArray, List.set_cons_zero, List.set_cons_succ]
                        refine wpAnyH_take (i := 20) (oi := _) (v := ?_) rfl (by kernel_rfl) (by kernel_rfl) (by kernel_rfl) (fun _ _ _ h => h) (Or.inl ⟨by rfl, ?_⟩) (by assumption) ?_
                        rotate_left
                        · (intro w hSw; go_simp; first | done | (with_reducible rfl))
                        simp only [Act.put, List.getElem_toArray, List.getElem_cons_succ, List.getElem_cons_zero, List.setIfInBounds_toArray, List.set_cons_zero, List.set_cons_succ]
                        refine wpAnyH_take (i := 22) (oi := _) (v := ?_) rfl (by kernel_rfl) (by kernel_rfl) (by kernel_rfl) (fun _ _ _ h => h) (Or.inl ⟨by rfl, ?_⟩) (by assumption) ?_
                        rotate_left
                        · (intro w hSw; go_simp; first | done | (with_reducible rfl))
                        simp only [Act.put, List.getElem_toArray, List.getElem_cons_succ, List.getElem_cons_zero, List.setIfInBounds_toArray, List.set_cons_zero, List.set_cons_succ]
                        refine wpAnyH_ready (rs := [21]) (by kernel_rfl) (by simp) ?_
                        refine AllReadyH.cons rfl (fun K hK => ?_) AllReadyH.nil
                        go_simp
                        refine (HK1.out _ hHeld).mono ?_
                        rintro e wA ⟨rfl, hwA⟩
                        subst hwA
                        refine hK.out _ _ hHeld (fun hHeld => ?_)
                        clear hK K
                        refine wpAnyH_ready (rs := [23]) (by kernel_rfl) (by simp) ?_
                        refine AllReadyH.cons rfl (fun K hK => ?_) AllReadyH.nil
                        go_simp
                        refine (HK2.out _ hHeld).mono ?_
                        rintro e wA ⟨rfl, hwA⟩
                        subst hwA
                        refine hK.out _ _ hHeld (fun hHeld => ?_)
                        clear hK K
                        refine wpAnyH_take (i := 24) (oi := _) (v := .bool false) rfl (by kernel_rfl) (by kernel_rfl) (by kernel_rfl) (fun _ _ _ h => h) (Or.inl ⟨by rfl, ?_⟩) (by assumption) ?_
                        · (intro w hSw; go_simp; first | done | (simp; done) | trace_state)
                        simp only [Act.put, List.getElem_toArray, List.getElem_cons_succ, List.getElem_cons_zero, List.setIfInBounds_toArray, List.set_cons_zero, List.set_cons_succ]
                        refine wpAnyH_take (i := 25) (oi := _) (v := .bool false) rfl (by kernel_rfl) (by kernel_rfl) (by kernel_rfl) (fun _ _ _ h => h) (Or.inl ⟨by rfl, ?_⟩) (by assumption) ?_
                        · (intro w hSw; go_simp; first | done | (simp; done) | trace_state)
                        simp only [Act.put, List.getElem_toArray, List.getElem_cons_succ, List.getElem_cons_zero, List.setIfInBounds_toArray, List.set_cons_zero, List.set_cons_succ]
                        refine wpAnyH_done (by kernel_rfl) ?_ _
                        have HSX : Keep (Sep w _ [lobA la A', lobA lb B']) := ⟨Sep.dropM [lobA la A', lobA lb B'] [boxA b13 (lvc s) 42, boxA ob (opv x1) 50] (l := []) (fr1 [_, _] hHeld.tail)⟩
                        clear HC1 HC2 HK1 HK2
                        go_wp2_with fail
                        go_roundw
                        case rel => exact ⟨i + 1, _, _, by have := HI.out; omega, by have := HI.out; omega, rfl, HSX, HTX⟩
                        case measure => simp [intOf]; have := HI.out; omega
              · by_cases hin : i < n
                · have hi1 : (i : Int) < (n : Nat) := by omega
                  have hi2 : ¬ (i : Int) < 200 := by omega
                  have hs1 := sent_c w wr _ la A 1 hS.out hT.out.oa (by decide)
                  obtain ⟨_, _, _, q4⟩ := hT.out.ask sann 0
                  obtain ⟨av, bv, hsn⟩ := snt_form B 1
                  rw [q4, hsn] at hs1
                  clear q4
                  go_wp2_with fail
                  refine hs1.mono ?_
                  rintro e w2 ⟨rfl, S2⟩
                  have hs2 := sent_c w w2 _ lb B 1 S2.swap hT.out.ob (by decide)
                  rw [hsn] at hs2
                  clear hs1 S2 hsn
                  go_wp2_with fail
                  refine hs2.mono ?_
                  rintro e w3 ⟨rfl, S3⟩
                  have hNx := next_c w w3 _ la (sntX A 1) S3.swap
                  rw [snt_next, hT.out.na, show uv 3 = .int .u64 3 from rfl] at hNx
                  have HG := Keep.mk S3.g
                  clear hs2 S3
                  go_wp2_with fail
                  refine hNx.mono ?_
                  rintro e w4 ⟨rfl, hw4⟩
                  subst hw4
                  clear hNx
                  go_wp2_with fail
                  go_ret
                  exact ⟨rfl, HG.out⟩
                · have hi1 : ¬ (i : Int) < (n : Nat) := by omega
                  have hs1 := sent_c w wr _ la A 1 hS.out hT.out.oa (by decide)
                  obtain ⟨_, _, _, q4⟩ := hT.out.ask sann 0
                  obtain ⟨av, bv, hsn⟩ := snt_form B 1
                  rw [q4, hsn] at hs1
                  clear q4
                  go_wp2_with fail
                  refine hs1.mono ?_
                  rintro e w2 ⟨rfl, S2⟩
                  have hs2 := sent_c w w2 _ lb B 1 S2.swap hT.out.ob (by decide)
                  rw [hsn] at hs2
                  clear hs1 S2 hsn
                  go_wp2_with fail
                  refine hs2.mono ?_
                  rintro e w3 ⟨rfl, S3⟩
                  have hNx := next_c w w3 _ la (sntX A 1) S3.swap
                  rw [snt_next, hT.out.na, show uv 3 = .int .u64 3 from rfl] at hNx
                  have HG := Keep.mk S3.g
                  clear hs2 S3
                  go_wp2_with fail
                  refine hNx.mono ?_
                  rintro e w4 ⟨rfl, hw4⟩
                  subst hw4
                  clear hNx
                  go_wp2_with fail
                  go_ret
                  exact ⟨rfl, HG.out⟩
end Go.Proofs.YtplcicbpkbamnaaDoor.Lo

