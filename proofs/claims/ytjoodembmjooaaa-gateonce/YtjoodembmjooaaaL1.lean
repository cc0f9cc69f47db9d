/- GateApart: the walk. -/
import Derived.Test.YtjoodembmjooaaaG6
import Derived.Test.YtjoodembmjooaaaG4
namespace Go.Proofs.Ytjoodembmjooaaa
open Go Go.RowKit Go.Maps

theorem gok_get {w0 W : World} {l : List As} {gb : Nat} {M : List Itn} (h : Sep w0 W (gateA gb M :: l)) : Gok M := by
  obtain ⟨mb, h1, hg⟩ := gate_open h
  exact hg
set_option maxRecDepth 100000 in
set_option maxHeartbeats 32000000 in
theorem apart_c (w : World) (sv : Value) (p : Int) (L : List Stp) (hs : SrO w sv L) :
    Calls Try.prog 3 #[sv, iv p] w fun e w' => e = .returned (.bool true) ∧ w.grownBy w' none := by
  obtain ⟨a0, cap0, hsv, _⟩ := hs.o
  obtain ⟨n, hnn⟩ : ∃ n, L.length = n := ⟨_, rfl⟩
  rw [hnn] at hsv
  subst hsv
  have HNK := Keep.mk (And.intro hs hnn)
  have HNL : Keep (n * 40 ≤ 140737488351232) := ⟨by rw [← hnn]; exact hs.len⟩
  have HF := Keep.mk (fixed_c sort_c w)
  obtain ⟨du, hdu, hdr⟩ := underS
  clear hs hnn
  go_enter Try.func3, Try.ntmps3
  go_wp2_with fail
  refine HF.out.mono ?_
  rintro e w1 ⟨rfl, g1⟩
  have HN1 := Keep.mk (new_c w w1 [] (Sep.start g1))
  clear HF g1
  go_wp2_with fail
  refine HN1.out.mono ?_
  rintro e w2 ⟨gb, rfl, S2⟩
  have HN2 := Keep.mk (new_c w w2 _ S2)
  clear HN1 S2
  go_wp2_with fail
  refine HN2.out.mono ?_
  rintro e w3 ⟨hb, rfl, S3⟩
  have HS3 : Keep (Sep w w3 [gateA gb [], gateA hb (rmk [] p)]) := ⟨S3.swap⟩
  clear HN2 S3
  go_wp2_with fail
  go_loopw [7, 8, 9, 10, 11] (fun u7 _ _ _ _ wr => ∃ (i : Nat) (G : List Itn), i ≤ n ∧ u7 = iv i ∧ Keep (Sep w wr [gateA gb G, gateA hb (rmk G p)]) ∧ Keep (G.length ≤ i)) (fun u7 _ _ _ _ _ => (n - intOf u7).toNat)
  case atStart => exact ⟨0, [], by omega, rfl, HS3, ⟨Nat.le_refl _⟩⟩
  case round =>
    clear HS3
    obtain ⟨i, G, hi, rfl, hS, hL⟩ := hrel
    by_cases hlt : i < n
    · obtain ⟨b0, o0, x, rfl, hx, hxp, hrg⟩ := HNK.out.1.at HNK.out.2 hS.out.g hlt
      have HRG := Keep.mk hrg
      have HXP := Keep.mk hxp
      have HSO := Keep.mk (stv_one x)
      have HGL : Keep (G.length < 4611686018427387904 ∧ (rmk G p).length < 4611686018427387904) := ⟨by have := hL.out; have := HNL.out; have := len_rmk G p; constructor <;> omega⟩
      have HGG := Keep.mk (gok_get hS.out)
      have hi0 : (0 : Int) ≤ (i : Int) := by omega
      have hi1 : (i : Int) < (n : Nat) := by omega
      have hti : ((i : Nat) : Int).toNat = i := by omega
      have hwi : IntKind.i64.wrap ((i : Int) + 1) = ((i + 1 : Nat) : Int) := by have := HNL.out; rw [wi _ (by omega) (by omega)]; omega
      have HI : Keep (i < n) := ⟨hlt⟩
      clear hrg hxp hx hi hlt
      go_wp2_with (first
        | (show wpList _ _ _ ({ dst := _, op := Op.load 29 _, type := _, pos := _, after := _, guard := _ } :: _) _ _
           refine wpList_load_mid rfl 29 _ rfl _ _ rfl _ _ HRG.out hdu hdr (by exact infoS) ?_)
        | (show wpList _ _ _ ({ dst := _, op := Op.store 29 _ _, type := _, pos := _, after := _, guard := _ } :: _) _ _
           refine store_new _ (stv x) 29 rfl rfl rfl rfl rfl (by exact infoS) HSO.out ?_))
      intro w2 hS2 g2
      have S2 := hS2 w _ hS.out
      generalize wr.heap.size = ob at S2 ⊢
      have HS2 := Keep.mk S2
      clear hS2 g2 S2 hS HRG HSO
      have d0 : w2.cell? ⟨ob, 0, none⟩ = some (iv x.op) := (HS2.out.boxGet k0m).cellv 0 _ rfl
      have d1 : w2.cell? ⟨ob, 1, none⟩ = some (iv x.pl) := (HS2.out.boxGet k0m).cellv 1 _ rfl
      have d2 : w2.cell? ⟨ob, 2, none⟩ = some (iv x.c.th) := (HS2.out.boxGet k0m).cellv 2 _ rfl
      have d3 : w2.cell? ⟨ob, 3, none⟩ = some (iv x.c.tu) := (HS2.out.boxGet k0m).cellv 3 _ rfl
      have d4 : w2.cell? ⟨ob, 4, none⟩ = some (.bool x.c.fi) := (HS2.out.boxGet k0m).cellv 4 _ rfl
      have d5 : w2.cell? ⟨ob, 5, none⟩ = some (.bool x.c.bo) := (HS2.out.boxGet k0m).cellv 5 _ rfl
      by_cases hop : x.pl = p
      · have n0 : (x.pl != p) = false := by simp [hop]
        have HOP := Keep.mk hop
        clear hop
        by_cases e1 : x.op = 1
        · rw [e1] at d0
          have HC := Keep.mk (offer_c w w2 [boxA ob (stv x) 29, gateA hb (rmk G p)] gb G x.pl x.c HXP.out HGL.out.1 HS2.out.swap)
          have HX : Keep (rmk (ofX G x.pl x.c) p = rmk G p ∧ (ofX G x.pl x.c).length ≤ i + 1) := ⟨by rw [HOP.out]; exact ap_ofX_same HGG.out p x.c, by have := hL.out; have := len_ofX G x.pl x.c; omega⟩
          clear e1 HS2
          go_wp2_with fail
          refine HC.out.mono ?_
          rintro e w4 ⟨rfl, S4⟩
          have HS4 : Keep (Sep w w4 [gateA gb (ofX G x.pl x.c), gateA hb (rmk (ofX G x.pl x.c) p)]) := ⟨by rw [HX.out.1]; exact S4.swap.tail⟩
          clear HC S4 d0 d1 d2 d3 d4 d5
          go_wp2_with fail
          go_roundw
          case rel => exact ⟨i + 1, _, HI.out, rfl, HS4, ⟨HX.out.2⟩⟩
          case measure => simp [intOf]; have := HI.out; omega
        · have n1 : (x.op == 1) = false := by simp [e1]
          by_cases e3 : x.op = 3
          · rw [e3] at d0
            have HC := Keep.mk (drop_c w w2 [boxA ob (stv x) 29, gateA hb (rmk G p)] gb G x.pl HXP.out HS2.out.swap)
            have HX : Keep (rmk (rmk G x.pl) p = rmk G p ∧ (rmk G x.pl).length ≤ i + 1) := ⟨by rw [HOP.out]; exact rmk_same G p, by have := hL.out; have := len_rmk G x.pl; omega⟩
            clear e1 n1 e3 HS2
            go_wp2_with fail
            refine HC.out.mono ?_
            rintro e w4 ⟨rfl, S4⟩
            have HS4 : Keep (Sep w w4 [gateA gb (rmk G x.pl), gateA hb (rmk (rmk G x.pl) p)]) := ⟨by rw [HX.out.1]; exact S4.swap.tail⟩
            clear HC S4 d0 d1 d2 d3 d4 d5
            go_wp2_with fail
            go_roundw
            case rel => exact ⟨i + 1, _, HI.out, rfl, HS4, ⟨HX.out.2⟩⟩
            case measure => simp [intOf]; have := HI.out; omega
          · have n3 : (x.op == 3) = false := by simp [e3]
            have HS4 : Keep (Sep w w2 [gateA gb G, gateA hb (rmk G p)]) := ⟨HS2.out.tail⟩
            clear e1 e3 HS2
            go_wp2_with fail
            go_roundw
            case rel => exact ⟨i + 1, _, HI.out, rfl, HS4, ⟨by have := hL.out; omega⟩⟩
            case measure => simp [intOf]; have := HI.out; omega
      · have n0 : (x.pl != p) = true := by simp [hop]
        have HOP := Keep.mk hop
        clear hop
        by_cases e1 : x.op = 1
        · rw [e1] at d0
          have HC := Keep.mk (offer_c w w2 [boxA ob (stv x) 29, gateA hb (rmk G p)] gb G x.pl x.c HXP.out HGL.out.1 HS2.out.swap)
          have HX : Keep (ofX (rmk G p) x.pl x.c = rmk (ofX G x.pl x.c) p ∧ ofE (rmk G p) x.pl = ofE G x.pl ∧ (ofX G x.pl x.c).length ≤ i + 1) := ⟨ap_ofX HGG.out HOP.out x.c, ap_ofE G HOP.out, by have := hL.out; have := len_ofX G x.pl x.c; omega⟩
          clear e1 HS2
          go_wp2_with fail
          refine HC.out.mono ?_
          rintro e w4 ⟨rfl, S4⟩
          have HS4 : Keep (Sep w w4 [boxA ob (stv x) 29, gateA gb (ofX G x.pl x.c), gateA hb (rmk G p)]) := ⟨S4.swap⟩
          clear HC S4 d0 d1 d2 d3 d4 d5
          have d1 : w4.cell? ⟨ob, 1, none⟩ = some (iv x.pl) := (HS4.out.boxGet k0m).cellv 1 _ rfl
          have d2 : w4.cell? ⟨ob, 2, none⟩ = some (iv x.c.th) := (HS4.out.boxGet k0m).cellv 2 _ rfl
          have d3 : w4.cell? ⟨ob, 3, none⟩ = some (iv x.c.tu) := (HS4.out.boxGet k0m).cellv 3 _ rfl
          have d4 : w4.cell? ⟨ob, 4, none⟩ = some (.bool x.c.fi) := (HS4.out.boxGet k0m).cellv 4 _ rfl
          have d5 : w4.cell? ⟨ob, 5, none⟩ = some (.bool x.c.bo) := (HS4.out.boxGet k0m).cellv 5 _ rfl
          have hC2 := offer_c w w4 [boxA ob (stv x) 29, gateA gb (ofX G x.pl x.c)] hb (rmk G p) x.pl x.c HXP.out HGL.out.2 (fr1 [_, _] HS4.out)
          rw [HX.out.1, HX.out.2.1] at hC2
          have HC2 := Keep.mk hC2
          generalize ofE G x.pl = ee at HC2 ⊢
          clear HS4 hC2
          go_wp2_with fail
          refine HC2.out.mono ?_
          rintro e w5 ⟨rfl, S5⟩
          have HS5 : Keep (Sep w w5 [gateA gb (ofX G x.pl x.c), gateA hb (rmk (ofX G x.pl x.c) p)]) := ⟨S5.swap.tail.swap⟩
          clear HC2 S5 d1 d2 d3 d4 d5
          go_wp2_with fail
          go_roundw
          case rel => exact ⟨i + 1, _, HI.out, rfl, HS5, ⟨HX.out.2.2⟩⟩
          case measure => simp [intOf]; have := HI.out; omega
        · have n1 : (x.op == 1) = false := by simp [e1]
          by_cases e3 : x.op = 3
          · rw [e3] at d0
            have HC := Keep.mk (drop_c w w2 [boxA ob (stv x) 29, gateA hb (rmk G p)] gb G x.pl HXP.out HS2.out.swap)
            have HX : Keep (rmk (rmk G p) x.pl = rmk (rmk G x.pl) p ∧ (look (rmk G p) x.pl).isSome = (look G x.pl).isSome ∧ (rmk G x.pl).length ≤ i + 1) := ⟨rmk_comm G p x.pl, ap_look G HOP.out, by have := hL.out; have := len_rmk G x.pl; omega⟩
            clear e1 n1 e3 HS2
            go_wp2_with fail
            refine HC.out.mono ?_
            rintro e w4 ⟨rfl, S4⟩
            have HS4 : Keep (Sep w w4 [boxA ob (stv x) 29, gateA gb (rmk G x.pl), gateA hb (rmk G p)]) := ⟨S4.swap⟩
            clear HC S4 d0 d1 d2 d3 d4 d5
            have d1 : w4.cell? ⟨ob, 1, none⟩ = some (iv x.pl) := (HS4.out.boxGet k0m).cellv 1 _ rfl
            have hC2 := drop_c w w4 [boxA ob (stv x) 29, gateA gb (rmk G x.pl)] hb (rmk G p) x.pl HXP.out (fr1 [_, _] HS4.out)
            rw [HX.out.1, HX.out.2.1] at hC2
            have HC2 := Keep.mk hC2
            generalize (look G x.pl).isSome = ee at HC2 ⊢
            clear HS4 hC2
            have hbb : (ee != ee) = false := by simp
            go_wp2_with fail
            refine HC2.out.mono ?_
            rintro e w5 ⟨rfl, S5⟩
            have HS5 : Keep (Sep w w5 [gateA gb (rmk G x.pl), gateA hb (rmk (rmk G x.pl) p)]) := ⟨S5.swap.tail.swap⟩
            clear HC2 S5 d1
            go_wp2_with fail
            go_roundw
            case rel => exact ⟨i + 1, _, HI.out, rfl, HS5, ⟨HX.out.2.2⟩⟩
            case measure => simp [intOf]; have := HI.out; omega
          · have n3 : (x.op == 3) = false := by simp [e3]
            have HS4 : Keep (Sep w w2 [gateA gb G, gateA hb (rmk G p)]) := ⟨HS2.out.tail⟩
            clear e1 e3 HS2
            go_wp2_with fail
            go_roundw
            case rel => exact ⟨i + 1, _, HI.out, rfl, HS4, ⟨by have := hL.out; omega⟩⟩
            case measure => simp [intOf]; have := HI.out; omega
    · have hi1 : ¬ (i : Int) < (n : Nat) := by omega
      have HGN : Keep (G.length * 32 ≤ 140737488355328 ∧ (rmk G p).length * 32 ≤ 140737488355328) := ⟨by have := hL.out; have := HNL.out; have := len_rmk G p; constructor <;> omega⟩
      have HT := Keep.mk (take_c sort_c w wr _ gb G HGN.out.1 hS.out)
      clear hS hlt hi
      go_wp2_with fail
      refine HT.out.mono ?_
      rintro e w4 ⟨g1, cc1, rfl, S4⟩
      have HT2 := Keep.mk (take_c sort_c w w4 _ hb (rmk G p) HGN.out.2 (fr1 [_, _] S4))
      clear HT S4
      go_wp2_with fail
      refine HT2.out.mono ?_
      rintro e w5 ⟨g2, cc2, rfl, S5⟩
      have HR1 := Keep.mk (S5.rdi (M := G) k2m rfl)
      have HR2 := Keep.mk (S5.rdi (M := rmk G p) k0m rfl)
      have HG5 := Keep.mk S5.g
      clear HT2 S5
      obtain ⟨m, hm⟩ : ∃ m, G.length = m := ⟨_, rfl⟩
      obtain ⟨mh, hmh⟩ : ∃ m, (rmk G p).length = m := ⟨_, rfl⟩
      have HQ := Keep.mk hm
      have HQH := Keep.mk hmh
      have HMB : Keep (m ≤ 140737488355328 ∧ mh ≤ m) := ⟨by have := HGN.out; have := len_rmk G p; omega⟩
      rw [hm] at HR1 ⊢
      rw [hmh] at HR2 ⊢
      clear hm hmh hL HNL HNK
      go_wp2_with fail
      go_loopw [14, 15] (fun u14 u15 wz => ∃ (j : Nat), j ≤ m ∧ u15 = iv j ∧ u14 = iv ((rmk (G.take j) p).length : Nat) ∧ Keep (w5.grownBy wz none)) (fun _ u15 _ => (m - intOf u15).toNat)
      case atStart => exact ⟨0, by omega, rfl, rfl, ⟨World.grownBy.refl _ _⟩⟩
      case round =>
        obtain ⟨j, hj, rfl, rfl, hG⟩ := hrel
        by_cases hlt : j < m
        · obtain ⟨s, hs⟩ : ∃ s, G[j]? = some s := ⟨_, List.getElem?_eq_getElem (by rw [HQ.out]; exact hlt)⟩
          have hi0 : (0 : Int) ≤ (j : Int) := by omega
          have hi1 : (j : Int) < (m : Nat) := by omega
          have hti : ((j : Nat) : Int).toNat = j := by omega
          have hwi : IntKind.i64.wrap ((j : Int) + 1) = ((j + 1 : Nat) : Int) := by have := HMB.out; rw [wi _ (by omega) (by omega)]; omega
          have HTK := Keep.mk (rmk_take G p j s hs)
          have hsHx := rmk_at G p j s hs
          have HS0 : Keep (∀ W, wr.grownBy W none → (Rdi W (sl g1 m cc1) G ∧ Rdi W (sl g2 mh cc2) (rmk G p) ∧ w5.grownBy W none)) := ⟨fun W g => ⟨HR1.out.kept (hG.out.trans g), HR2.out.kept (hG.out.trans g), hG.out.trans g⟩⟩
          obtain ⟨y0, _⟩ := (HR1.out.kept hG.out).cells HQ.out hs
          obtain ⟨q, hq⟩ : ∃ q, (rmk (G.take j) p).length = q := ⟨_, rfl⟩
          rw [hq] at HTK hsHx ⊢
          have HIJ : Keep (j < m) := ⟨hlt⟩
          clear hq hlt hj
          by_cases hop : s.pl = p
          · have n0 : (s.pl == p) = true := by simp [hop]
            have HE : Keep ((rmk (G.take (j + 1)) p).length = q) := ⟨by rw [HTK.out, if_pos hop, Nat.add_zero]⟩
            clear hop HTK hsHx HS0
            go_wp2_with fail
            go_roundw
            case rel => exact ⟨j + 1, HIJ.out, rfl, by rw [HE.out], hG⟩
            case measure => simp [intOf]; have := HIJ.out; omega
          · have n0 : (s.pl == p) = false := by simp [hop]
            have hsH : (rmk G p)[q]? = some s := hsHx hop
            have HE : Keep ((rmk (G.take (j + 1)) p).length = q + 1) := ⟨by rw [HTK.out, if_neg hop]⟩
            have hq2 : q < mh := by rw [← HQH.out]; exact (List.getElem?_eq_some_iff.1 hsH).1
            have hq0 : (0 : Int) ≤ (q : Int) := by omega
            have hq1 : (q : Int) < (mh : Nat) := by omega
            have hq3 : decide ((mh : Nat) ≤ q) = false := decide_eq_false (by omega)
            have hq4 : decide (((mh : Nat) : Int) ≤ (q : Int)) = false := decide_eq_false (by omega)
            have htq : ((q : Nat) : Int).toNat = q := by omega
            have hwq : IntKind.i64.wrap ((q : Int) + 1) = ((q + 1 : Nat) : Int) := by have := HMB.out; rw [wi _ (by omega) (by omega)]; omega
            clear hop HTK hsHx hG
            go_wp2_with fail
            refine wp_region_held_drew (S := fun w' => Rdi w' (sl g1 m cc1) G ∧ Rdi w' (sl g2 mh cc2) (rmk G p) ∧ w5.grownBy w' none) (by kernel_rfl) (HS0.out _ (gr_drew _ _)) (fun hHeld => ?_)
            clear HS0
            refine wpAnyH_take (i := 0) (oi := _) (v := ?_) rfl (by kernel_rfl) (by kernel_rfl) (by kernel_rfl) (fun _ _ _ h => h) (Or.inl ⟨by rfl, ?_⟩) (by assumption) ?_
            rotate_left
            · (intro w hSw; go_simp; first | done | (with_reducible rfl))
            simp only [Act.put, List.getElem_toArray, List.getElem_cons_zero, List.setIfInBounds_toArray, List.set_cons_zero, List.set_cons_succ]
            refine wpAnyH_take (i := 1) (oi := _) (v := ?_) rfl (by kernel_rfl) (by kernel_rfl) (by kernel_rfl) (fun _ _ _ h => h) (Or.inl ⟨by rfl, ?_⟩) (by assumption) ?_
            rotate_left
            · (intro w hSw; go_simp; first | done | (with_reducible rfl))
            simp only [Act.put, List.getElem_toArray, List.getElem_cons_succ, List.getElem_cons_zero, List.setIfInBounds_toArray, List.set_cons_zero, List.set_cons_succ]
            refine wpAnyH_take (i := 2) (oi := _) (v := ?_) rfl (by kernel_rfl) (by kernel_rfl) (by kernel_rfl) (fun _ _ _ h => h) (Or.inl ⟨by rfl, ?_⟩) (by assumption) ?_
            rotate_left
            · (intro w hSw; go_simp; first | done | (with_reducible rfl))
            simp only [Act.put, List.getElem_toArray, List.getElem_cons_succ, List.getElem_cons_zero, List.setIfInBounds_toArray, List.set_cons_zero, List.set_cons_succ]
            refine wpAnyH_take (i := 3) (oi := _) (v := .bool false) rfl (by kernel_rfl) (by kernel_rfl) (by kernel_rfl) (fun _ _ _ h => h) (Or.inl ⟨by rfl, ?_⟩) (by assumption) ?_
            · (intro w hSw; go_simp; first | done | (simp; done) | trace_state)
            simp only [Act.put, List.getElem_toArray, List.getElem_cons_succ, List.getElem_cons_zero, List.setIfInBounds_toArray, List.set_cons_zero, List.set_cons_succ]
            refine wpAnyH_take (i := 4) (oi := _) (v := ?_) rfl (by kernel_rfl) (by kernel_rfl) (by kernel_rfl) (fun _ _ _ h => h) (Or.inl ⟨by rfl, ?_⟩) (by assumption) ?_
            rotate_left
            · (intro w hSw; go_simp; first | done | (with_reducible rfl))
            simp only [Act.put, List.getElem_toArray, List.getElem_cons_succ, List.getElem_cons_zero, List.setIfInBounds_toArray, List.set_cons_zero, List.set_cons_succ]
            refine wpAnyH_take (i := 5) (oi := _) (v := ?_) rfl (by kernel_rfl) (by kernel_rfl) (by kernel_rfl) (fun _ _ _ h => h) (Or.inl ⟨by rfl, ?_⟩) (by assumption) ?_
            rotate_left
            · (intro w hSw; go_simp; first | done | (with_reducible rfl))
            simp only [Act.put, List.getElem_toArray, List.getElem_cons_succ, List.getElem_cons_zero, List.setIfInBounds_toArray, List.set_cons_zero, List.set_cons_succ]
            refine wpAnyH_take (i := 6) (oi := _) (v := ?_) rfl (by kernel_rfl) (by kernel_rfl) (by kernel_rfl) (fun _ _ _ h => h) (Or.inl ⟨by rfl, ?_⟩) (by assumption) ?_
            rotate_left
            · (intro w hSw; go_simp; first | done | (with_reducible rfl))
            simp only [Act.put, List.getElem_toArray, List.getElem_cons_succ, List.getElem_cons_zero, List.setIfInBounds_toArray, List.set_cons_zero, List.set_cons_succ]
            refine wpAnyH_take (i := 7) (oi := _) (v := ?_) rfl (by kernel_rfl) (by kernel_rfl) (by kernel_rfl) (fun _ _ _ h => h) (Or.inl ⟨by rfl, ?_⟩) (by assumption) ?_
            rotate_left
            · (intro w hSw; go_simp; first | done | (with_reducible rfl))
            simp only [Act.put, List.getElem_toArray, List.getElem_cons_succ, List.getElem_cons_zero, List.setIfInBounds_toArray, List.set_cons_zero, List.set_cons_succ]
            refine wpAnyH_take (i := 8) (oi := _) (v := ?_) rfl (by kernel_rfl) (by kernel_rfl) (by kernel_rfl) (fun _ _ _ h => h) (Or.inl ⟨by rfl, ?_⟩) (by assumption) ?_
            rotate_left
            · (intro w hSw; obtain ⟨y0, y1, y2, y3, y4⟩ := hSw.2.1.cells HQH.out hsH; go_simp; first | done | (with_reducible rfl))
            simp only [Act.put, List.getElem_toArray, List.getElem_cons_succ, List.getElem_cons_zero, List.setIfInBounds_toArray, List.set_cons_zero, List.set_cons_succ]
            refine wpAnyH_take (i := 9) (oi := _) (v := ?_) rfl (by kernel_rfl) (by kernel_rfl) (by kernel_rfl) (fun _ _ _ h => h) (Or.inl ⟨by rfl, ?_⟩) (by assumption) ?_
            rotate_left
            · (intro w hSw; go_simp; first | done | (with_reducible rfl))
            simp only [Act.put, List.getElem_toArray, List.getElem_cons_succ, List.getElem_cons_zero, List.setIfInBounds_toArray, List.set_cons_zero, List.set_cons_succ]
            refine wpAnyH_take (i := 10) (oi := _) (v := ?_) rfl (by kernel_rfl) (by kernel_rfl) (by kernel_rfl) (fun _ _ _ h => h) (Or.inl ⟨by rfl, ?_⟩) (by assumption) ?_
            rotate_left
            · (intro w hSw; go_simp; first | done | (with_reducible rfl))
            simp only [Act.put, List.getElem_toArray, List.getElem_cons_succ, List.getElem_cons_zero, List.setIfInBounds_toArray, List.set_cons_zero, List.set_cons_succ]
            refine wpAnyH_take (i := 11) (oi := _) (v := ?_) rfl (by kernel_rfl) (by kernel_rfl) (by kernel_rfl) (fun _ _ _ h => h) (Or.inl ⟨by rfl, ?_⟩) (by assumption) ?_
            rotate_left
            · (intro w hSw; go_simp; first | done | (with_reducible rfl))
            simp only [Act.put, List.getElem_toArray, List.getElem_cons_succ, List.getElem_cons_zero, List.setIfInBounds_toArray, List.set_cons_zero, List.set_cons_succ]
            refine wpAnyH_take (i := 12) (oi := _) (v := ?_) rfl (by kernel_rfl) (by kernel_rfl) (by kernel_rfl) (fun _ _ _ h => h) (Or.inl ⟨by rfl, ?_⟩) (by assumption) ?_
            rotate_left
            · (intro w hSw; obtain ⟨y0, y1, y2, y3, y4⟩ := hSw.1.cells HQ.out hs; go_simp; first | done | (with_reducible rfl))
            simp only [Act.put, List.getElem_toArray, List.getElem_cons_succ, List.getElem_cons_zero, List.setIfInBounds_toArray, List.set_cons_zero, List.set_cons_succ]
            refine wpAnyH_take (i := 13) (oi := _) (v := .bool false) rfl (by kernel_rfl) (by kernel_rfl) (by kernel_rfl) (fun _ _ _ h => h) (Or.inl ⟨by rfl, ?_⟩) (by assumption) ?_
            · (intro w hSw; have hE := eq36 s w; go_simp; first | done | (simp; done) | trace_state)
            simp only [Act.put, List.getElem_toArray, List.getElem_cons_succ, List.getElem_cons_zero, List.setIfInBounds_toArray, List.set_cons_zero, List.set_cons_succ]
            refine wpAnyH_take (i := 14) (oi := _) (v := ?_) rfl (by kernel_rfl) (by kernel_rfl) (by kernel_rfl) (fun _ _ _ h => h) (Or.inl ⟨by rfl, ?_⟩) (by assumption) ?_
            rotate_left
            · (intro w hSw; go_simp; first | done | (with_reducible rfl))
            simp only [Act.put, List.getElem_toArray, List.getElem_cons_succ, List.getElem_cons_zero, List.setIfInBounds_toArray, List.set_cons_zero, List.set_cons_succ]
            refine wpAnyH_done (by kernel_rfl) ?_ _

            have HG := Keep.mk hHeld.2.2
            clear hHeld hq2 hq3 hq4 y0
            go_wp2_with fail
            go_roundw
            case rel => exact ⟨j + 1, HIJ.out, rfl, congrArg (Value.int .i64) (by rw [HE.out]; omega), HG⟩
            case measure => simp [intOf]; have := HIJ.out; omega
        · have hi1 : ¬ (j : Int) < (m : Nat) := by omega
          have HE : Keep ((rmk (G.take j) p).length = mh) := ⟨by
            rw [List.take_of_length_le (by rw [HQ.out]; omega)]
            exact HQH.out⟩
          rw [HE.out]
          go_wp2_with fail
          go_ret
          exact ⟨by simp, HG5.out.trans hG.out⟩
end Go.Proofs.Ytjoodembmjooaaa
