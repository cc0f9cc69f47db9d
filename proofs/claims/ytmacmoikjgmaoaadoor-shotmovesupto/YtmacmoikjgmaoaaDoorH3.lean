/- shot: Move -/
import Derived.Test.YtmacmoikjgmaoaaDoorH2
import Derived.Test.YtmacmoikjgmaoaaDoorBA2
import Derived.ScopeJumps
import Derived.WalkMore
namespace Go.Proofs.YtmacmoikjgmaoaaDoor.Bo
open Go Go.RowKit

theorem fly_wall {L : Bo} {cs : List Cr} {n : Nat} {s : Sh} (h : slid L (nxt s) = true) : fly L cs (n + 1) s = (nxt s, some (-1)) := by
  rw [fly, if_pos h]
theorem fly_hit {L : Bo} {cs : List Cr} {n i : Nat} {s : Sh} (h : slid L (nxt s) = false) (hi : cs.findIdx? (mt (nxt s)) = some i) : fly L cs (n + 1) s = (nxt s, some (i : Int)) := by
  rw [fly, if_neg (by rw [h]; decide), hi]
theorem fly_on {L : Bo} {cs : List Cr} {n : Nat} {s : Sh} (h : slid L (nxt s) = false) (hi : cs.findIdx? (mt (nxt s)) = none) : fly L cs (n + 1) s = fly L cs n (nxt s) := by
  rw [fly, if_neg (by rw [h]; decide), hi]
/-- none of the first i, and this one -/
theorem find_here {α : Type} {p : α → Bool} {l : List α} {i : Nat} {x : α} (hi : l[i]? = some x) (hx : p x = true) (hn : ∀ (j : Nat) y, j < i → l[j]? = some y → p y = false) : l.findIdx? p = some i := by
  rw [List.findIdx?_eq_some_iff_getElem]
  obtain ⟨h1, h2⟩ := List.getElem?_eq_some_iff.1 hi
  exact ⟨h1, by rw [h2]; exact hx, fun j hj => by
    have := hn j _ hj (List.getElem?_eq_getElem (by omega))
    rw [this]
    decide⟩
theorem find_none {α : Type} {p : α → Bool} {l : List α} (hn : ∀ (j : Nat) y, j < l.length → l[j]? = some y → p y = false) : l.findIdx? p = none := by
  rw [List.findIdx?_eq_none_iff]
  intro x hx
  obtain ⟨j, hj, rfl⟩ := List.getElem_of_mem hx
  exact hn j _ hj (List.getElem?_eq_getElem hj)
set_option maxRecDepth 100000 in
set_option maxHeartbeats 64000000 in
theorem move_c (w : World) (kb : Nat) (L : Bo) (cv : Value) (cs : List Cr) (s : Sh) (hB : Bd w (pt kb) L) (hC : Crs w cv cs) (ok : ShOk s) (hk : Kc w) :
    Calls Tryd.prog 11 #[pt kb, cv, .agg (shv s).toArray] w fun e w' => e = .returned (.tuple #[.agg (shv (mov L cs s).1).toArray, iv (mov L cs s).2.1, .bool (mov L cs s).2.2]) ∧ w.grownBy w' none := by
  obtain ⟨ds, hds, hdsr⟩ := underS
  obtain ⟨du, hdu, hdr⟩ := underC
  obtain ⟨dv, hdv, hdvr⟩ := underVc
  have S3 := ((Sep.nil w).newBox (shv s).toArray 26).newBox zS7.toArray 26
  obtain ⟨W1, hW1⟩ : ∃ W1, w.alloc (.cells (shv s).toArray 26) = W1 := ⟨_, rfl⟩
  obtain ⟨xb, hxb⟩ : ∃ xb, w.heap.size = xb := ⟨_, rfl⟩
  rw [hW1, hxb] at S3
  obtain ⟨W2, hW2⟩ : ∃ W2, W1.alloc (.cells zS7.toArray 26) = W2 := ⟨_, rfl⟩
  obtain ⟨rb, hrb⟩ : ∃ rb, W1.heap.size = rb := ⟨_, rfl⟩
  rw [hW2, hrb] at S3
  change Sep w W2 [boxA rb zS7 26, boxA xb (shv s) 26] at S3
  rw [zS7_lit] at hW2
  have hss : (shv s).toArray.size = 7 := rfl
  have y4 : W2.cell? ⟨xb, 4, none⟩ = some (iv s.sx) := (S3.boxGet k1m).cellv 4 _ rfl
  have y5 : W2.cell? ⟨xb, 5, none⟩ = some (iv s.sy) := (S3.boxGet k1m).cellv 5 _ rfl
  have S4 := S3.newBox #[iv (s.sx / 4), iv (s.sy / 4)] 24
  obtain ⟨W4, hW4⟩ : ∃ W_, W2.alloc (.cells #[iv (s.sx / 4), iv (s.sy / 4)] 24) = W_ := ⟨_, rfl⟩
  obtain ⟨tb, htb⟩ : ∃ b_, W2.heap.size = b_ := ⟨_, rfl⟩
  rw [hW4, htb] at S4
  change Sep w W4 [boxA tb [iv (s.sx / 4), iv (s.sy / 4)] 24, boxA rb zS7 26, boxA xb (shv s) 26] at S4
  have HS : Keep (Sep w W4 [boxA xb (shv s) 26, boxA tb [iv (s.sx / 4), iv (s.sy / 4)] 24, boxA rb zS7 26]) := ⟨S4.third⟩
  have HW := Keep.mk (And.intro hB (And.intro hC hk))
  have HOK := Keep.mk ok
  clear S3 S4 hB ok hk
  obtain ⟨a0, cap, rfl, _⟩ := hC.o
  have hn := hC.n
  clear hC
  obtain ⟨n, hnn⟩ : ∃ n, cs.length = n := ⟨_, rfl⟩
  rw [hnn] at hn HW
  rw [hnn]
  have HNN := Keep.mk hnn
  clear hnn
  obtain ⟨rS, hrS⟩ : ∃ r, (mov L cs s).1 = r := ⟨_, rfl⟩
  obtain ⟨rH, hrH⟩ : ∃ r, (mov L cs s).2.1 = r := ⟨_, rfl⟩
  obtain ⟨rO, hrO⟩ : ∃ r, (mov L cs s).2.2 = r := ⟨_, rfl⟩
  rw [hrS, hrH, hrO]
  have HMV : Keep (mov L cs s = (rS, rH, rO)) := ⟨by rw [← hrS, ← hrH, ← hrO]⟩
  clear hrS hrH hrO
  go_enter Tryd.func11, Tryd.ntmps11
  go_wp2_with fail
  refine wp_scope_jumps 0 (fun a wj => ∃ (t : Sh) (h : Int) (v9 v11 v12 v13 v14 v15 v16 v17 v18 v19 v20 v21 v22 v23 v24 v25 v26 v27 v28 v29 v30 v31 v32 v33 v34 v35 v36 v37 v38 v39 v40 v41 v42 v43 v44 v45 v46 v47 v48 v49 v50 v51 v52 v53 v54 v55 : Value), a = { tmps := #[pt kb, .slice a0 n cap, .agg (shv s).toArray, undef, undef, pt xb, pt rb, iv 0, .bool false, v9, iv h, v11, v12, v13, v14, v15, v16, v17, v18, v19, v20, v21, v22, v23, v24, v25, v26, v27, v28, v29, v30, v31, v32, v33, v34, v35, v36, v37, v38, v39, v40, v41, v42, v43, v44, v45, v46, v47, v48, v49, v50, v51, v52, v53, v54, v55], defers := [] } ∧ Keep ((rS, rH, rO) = (t, h, false)) ∧ Keep (Sep w wj [boxA xb (shv t) 26, boxA tb [iv (s.sx / 4), iv (s.sy / 4)] 24, boxA rb zS7 26])) (fun _ _ => 0) rfl ?_ ?_
  · go_wp2_with fail
    go_loopw [10, 21] (fun u10 u21 wr => ∃ (k : Nat) (t : Sh), k ≤ 4 ∧ u10 = iv (-1) ∧ u21 = iv k ∧ Keep (ShOk t ∧ t.sx = s.sx ∧ t.sy = s.sy ∧ fly L cs 4 s = fly L cs (4 - k) t) ∧ Keep (Sep w wr [boxA xb (shv t) 26, boxA tb [iv (s.sx / 4), iv (s.sy / 4)] 24, boxA rb zS7 26])) (fun _ u _ => (4 - intOf u).toNat)
    case atStart => exact ⟨0, s, by omega, rfl, rfl, ⟨HOK.out, rfl, rfl, rfl⟩, HS⟩
    case round =>
      obtain ⟨k, t, hk4, rfl, rfl, HT, HB⟩ := hrel
      clear HS HOK hW1 hW2 hW4 hxb hrb htb y4 y5
      by_cases hlt : k < 4
      · have hki : (k : Int) < 4 := by omega
        have hdk : decide ((k : Int) < 4) = true := decide_eq_true hki
        have hk1 : IntKind.i64.wrap ((k : Int) + 1) = ((k + 1 : Nat) : Int) := by rw [wi _ (by omega) (by omega)]; omega
        have HK := Keep.mk (And.intro hlt hk4)
        clear hlt hk4 hki
        have y2 : wr.cell? ⟨xb, 2, none⟩ = some (iv t.x) := (HB.out.boxGet k0m).cellv 2 _ rfl
        have y3 : wr.cell? ⟨xb, 3, none⟩ = some (iv t.y) := (HB.out.boxGet k0m).cellv 3 _ rfl
        have z0 : wr.cell? ⟨tb, 0, none⟩ = some (iv (s.sx / 4)) := (HB.out.boxGet k1m).cellv 0 _ rfl
        have z1 : wr.cell? ⟨tb, 1, none⟩ = some (iv (s.sy / 4)) := (HB.out.boxGet k1m).cellv 1 _ rfl
        have hA := vadd_c t.x t.y (s.sx / 4) (s.sy / 4) HT.out.1.x HT.out.1.y (HT.out.2.1 ▸ div4_in HT.out.1.sx) (HT.out.2.2.1 ▸ div4_in HT.out.1.sy) wr
        have HN : Keep (nxt t = { t with x := addZ t.x (s.sx / 4), y := addZ t.y (s.sy / 4) }) := ⟨by unfold nxt; rw [HT.out.2.1, HT.out.2.2.1]⟩
        obtain ⟨px, hpx⟩ : ∃ p, addZ t.x (s.sx / 4) = p := ⟨_, rfl⟩
        obtain ⟨py, hpy⟩ : ∃ p, addZ t.y (s.sy / 4) = p := ⟨_, rfl⟩
        rw [hpx, hpy] at hA HN
        clear hpx hpy
        go_wp2_with fail
        refine hA.mono ?_
        rintro e w1 ⟨rfl, g_⟩
        replace HB := Keep.mk (HB.out.grown g_)
        clear g_ hA y2 y3 z0 z1
        have y2 : w1.cell? ⟨xb, 2, none⟩ = some (iv t.x) := (HB.out.boxGet k0m).cellv 2 _ rfl
        have f2 : w1.frozen? ⟨xb, 2, none⟩ = false := (HB.out.boxGet k0m).frozen 2
        have y3 : w1.cell? ⟨xb, 3, none⟩ = some (iv t.y) := (HB.out.boxGet k0m).cellv 3 _ rfl
        have f3 : w1.frozen? ⟨xb, 3, none⟩ = false := (HB.out.boxGet k0m).frozen 3
        have S2 := HB.out.boxPut 2 (iv px)
        obtain ⟨w2, hw2⟩ : ∃ w4, w1.setCell ⟨xb, 2, none⟩ (iv px) = w4 := ⟨_, rfl⟩
        rw [hw2] at S2
        have y3' : w2.cell? ⟨xb, 3, none⟩ = some (iv t.y) := (S2.boxGet k0m).cellv 3 _ rfl
        have f3' : w2.frozen? ⟨xb, 3, none⟩ = false := (S2.boxGet k0m).frozen 3
        have S3 := S2.boxPut 3 (iv py)
        obtain ⟨w3, hw3⟩ : ∃ w4, w2.setCell ⟨xb, 3, none⟩ (iv py) = w4 := ⟨_, rfl⟩
        rw [hw3] at S3
        change Sep w w3 [boxA xb (shv { t with x := px, y := py }) 26, boxA tb [iv (s.sx / 4), iv (s.sy / 4)] 24, boxA rb zS7 26] at S3
        obtain ⟨t1, ht1⟩ : ∃ t1 : Sh, ({ t with x := px, y := py } : Sh) = t1 := ⟨_, rfl⟩
        have HP : Keep (t1.x = px ∧ t1.y = py) := ⟨by rw [← ht1]; exact ⟨rfl, rfl⟩⟩
        rw [ht1] at S3 HN
        have HT1 : Keep (ShOk t1 ∧ t1.sx = s.sx ∧ t1.sy = s.sy) := ⟨by rw [← HN.out]; exact ⟨nxt_ok HT.out.1, HT.out.2.1, HT.out.2.2.1⟩⟩
        clear ht1
        replace HB := Keep.mk S3
        have q2 : w3.cell? ⟨xb, 2, none⟩ = some (iv px) := HP.out.1 ▸ (HB.out.boxGet k0m).cellv 2 _ rfl
        have q3 : w3.cell? ⟨xb, 3, none⟩ = some (iv py) := HP.out.2 ▸ (HB.out.boxGet k0m).cellv 3 _ rfl
        have hSo := solid_c w3 (pt kb) L (HW.out.1.kept HB.out.g) px py (HP.out.1 ▸ HT1.out.1.x) (HP.out.2 ▸ HT1.out.1.y)
        have HSL : Keep (decide (atL L (px, py) = 35) = slid L (nxt t)) := ⟨by rw [HN.out]; unfold slid; rw [HP.out.1, HP.out.2]⟩
        rw [HSL.out] at hSo
        clear S2 S3 HSL
        generalize hsd : slid L (nxt t) = sd at hSo
        have HSD := Keep.mk hsd
        clear hsd
        go_wp2_with fail
        refine hSo.mono ?_
        rintro e w4 ⟨rfl, g_⟩
        replace HB := Keep.mk (HB.out.grown g_)
        clear g_ hSo y2 y3 f2 f3 y3' f3' q2 q3 hw2 hw3
        cases sd
        case true =>
          have HE : Keep ((rS, rH, rO) = (t1, (-1 : Int), false)) := ⟨by
            rw [← HMV.out, mov, HT.out.2.2.2, show 4 - k = (3 - k) + 1 by have := HK.out.1; omega, fly_wall HSD.out, HN.out]
            rfl⟩
          go_wp2_with fail
          go_step3
          exact ⟨rfl, t1, -1, _, _, _, _, _, _, _, _, _, _, _, _, _, _, _, _, _, _, _, _, _, _, _, _, _, _, _, _, _, _, _, _, _, _, _, _, _, _, _, _, _, _, _, _, _, _, rfl, ⟨HE.out⟩, HB⟩
        case false =>
        go_wp2_with fail
        rename World => wo
        go_loopw [10, 34] (fun u10 u34 ws => ∃ i : Nat, i ≤ n ∧ u10 = iv (-1) ∧ u34 = iv i ∧ Keep (∀ (j : Nat) y, j < i → cs[j]? = some y → mt t1 y = false) ∧ Keep (Sep w ws [boxA xb (shv t1) 26, boxA tb [iv (s.sx / 4), iv (s.sy / 4)] 24, boxA rb zS7 26])) (fun _ u _ => (n - intOf u).toNat)
        case atStart => exact ⟨0, by omega, rfl, rfl, ⟨fun j y hj => by omega⟩, HB⟩
        case round =>
          clear HB
          obtain ⟨i, hin0, rfl, rfl, HM, HB⟩ := hrel
          rename World => ws
          by_cases hin : i < n
          · have hii : (i : Int) < (n : Int) := by omega
            have hdi : decide ((i : Int) < (n : Int)) = true := decide_eq_true hii
            have hti : ((i : Nat) : Int).toNat = i := by omega
            have hi1 : IntKind.i64.wrap ((i : Int) + 1) = ((i + 1 : Nat) : Int) := by rw [wi _ (by omega) (by omega)]; omega
            obtain ⟨ci, hci⟩ : ∃ ci, cs[i]? = some ci := ⟨_, List.getElem?_eq_getElem (by rw [HNN.out]; exact hin)⟩
            obtain ⟨a1, cap1, ea, hcells⟩ := HW.out.2.1.o
            obtain ⟨g, o, eg, hcl⟩ := hcells (by rw [HNN.out]; omega)
            injection ea with ea1 ea2 ea3
            subst ea1
            subst eg
            have HIR : Keep (∀ W, w.grownBy W none → W.rangeAt g (o + i * 14) (crv ci)) := ⟨fun W gW j v hv => gW.cell (hcl i ci hci j v hv) (by simp)⟩
            have HOC : Keep (CrOk ci) := ⟨HW.out.2.1.s ci (List.mem_of_getElem? hci)⟩
            have HCI := Keep.mk hci
            have HME := Keep.mk (fun W (gW : w.grownBy W none) => meets_c W t1 ci HT1.out.1 HOC.out (HW.out.2.2.kept gW))
            generalize hmt : mt t1 ci = m at HME
            have HMT := Keep.mk hmt
            clear ea2 ea3 hcells hcl hci hmt
            go_wp2_with fail
            refine region_X (S := fun w' => Sep w w' [boxA xb (shv t1) 26, boxA tb [iv (s.sx / 4), iv (s.sy / 4)] 24, boxA rb zS7 26]) [] (by kernel_rfl) (HB.out.grown (gr_drew _ _)) (fun hHeld => ?_)
            replace HB := Keep.mk hHeld
            obtain ⟨W0, hW0⟩ : ∃ W_, ws.drew = W_ := ⟨_, rfl⟩
            rw [hW0] at HB hHeld ⊢
            clear hW0
            refine wpAnyX_take (i := 0) (oi := _) (v := _) rfl (by kernel_rfl) (by kernel_rfl) (by kernel_rfl) (by kernel_rfl) (by kernel_rfl) (fun _ _ _ h => h) (yieldsIf_load_mid (by rfl) 26 _ rfl _ _ rfl _ _ (fun w_ hS_ => (hS_.boxGet k0m).range) hds hdsr (infoS' t1)) (by assumption) ?_
            simp only [Act.put, List.getElem_toArray, List.getElem_cons_zero, List.setIfInBounds_toArray, List.set_cons_zero, List.set_cons_succ]
            refine wpAnyX_take (i := 1) (oi := _) (v := ?_) rfl (by kernel_rfl) (by kernel_rfl) (by kernel_rfl) (by kernel_rfl) (by kernel_rfl) (fun _ _ _ h => h) (Or.inl ⟨by rfl, ?_⟩) (by assumption) ?_
            rotate_left
            · (intro w hSw; go_simp; first | done | (with_reducible rfl))
            simp only [Act.put, List.getElem_toArray, List.getElem_cons_succ, List.getElem_cons_zero, List.setIfInBounds_toArray, List.set_cons_zero, List.set_cons_succ]
            refine wpAnyX_take (i := 2) (oi := _) (v := ?_) rfl (by kernel_rfl) (by kernel_rfl) (by kernel_rfl) (by kernel_rfl) (by kernel_rfl) (fun _ _ _ h => h) (Or.inl ⟨by rfl, ?_⟩) (by assumption) ?_
            rotate_left
            · (intro w hSw; go_simp; first | done | (with_reducible rfl))
            simp only [Act.put, List.getElem_toArray, List.getElem_cons_succ, List.getElem_cons_zero, List.setIfInBounds_toArray, List.set_cons_zero, List.set_cons_succ]
            refine wpAnyX_take (i := 3) (oi := _) (v := ?_) rfl (by kernel_rfl) (by kernel_rfl) (by kernel_rfl) (by kernel_rfl) (by kernel_rfl) (fun _ _ _ h => h) (Or.inl ⟨by rfl, ?_⟩) (by assumption) ?_
            rotate_left
            · (intro w hSw; go_simp; first | done | (with_reducible rfl))
            simp only [Act.put, List.getElem_toArray, List.getElem_cons_succ, List.getElem_cons_zero, List.setIfInBounds_toArray, List.set_cons_zero, List.set_cons_succ]
            refine wpAnyX_take (i := 4) (oi := _) (v := _) rfl (by kernel_rfl) (by kernel_rfl) (by kernel_rfl) (by kernel_rfl) (by kernel_rfl) (fun _ _ _ h => h) (yieldsIf_load_mid (by rfl) 38 _ rfl _ _ rfl _ _ (fun w_ hS_ => HIR.out w_ hS_.g) hdu hdr (infoC' ci)) (by assumption) ?_
            simp only [Act.put, List.getElem_toArray, List.getElem_cons_succ, List.getElem_cons_zero, List.setIfInBounds_toArray, List.set_cons_zero, List.set_cons_succ]
            refine wpAnyX_one (i := 5) (by kernel_rfl) rfl (fun K hK => ?_)
            go_simp
            refine (HME.out _ HB.out.g).mono ?_
            rintro e wg1 ⟨rfl, hg⟩
            replace HB := Keep.mk (HB.out.grown hg)
            refine hK.out _ _ HB.out (fun hHeld => ?_)
            clear hK K hg
            refine wpAnyX_done (by kernel_rfl) ?_ _
            clear hHeld
            cases m
            case true =>
              have HE : Keep ((rS, rH, rO) = (t1, (i : Int), false)) := ⟨by
                rw [← HMV.out, mov, HT.out.2.2.2, show 4 - k = (3 - k) + 1 by have := HK.out.1; omega, fly_hit HSD.out (by rw [HN.out]; exact find_here HCI.out HMT.out HM.out), HN.out]
                rfl⟩
              go_wp2_with fail
              go_step3
              exact ⟨rfl, t1, (i : Int), _, _, _, _, _, _, _, _, _, _, _, _, _, _, _, _, _, _, _, _, _, _, _, _, _, _, _, _, _, _, _, _, _, _, _, _, _, _, _, _, _, _, _, _, _, _, rfl, ⟨HE.out⟩, HB⟩
            case false =>
              have HM2 : Keep (∀ (j : Nat) y, j < i + 1 → cs[j]? = some y → mt t1 y = false) := ⟨fun j y hj hy => by
                by_cases q : j < i
                · exact HM.out j y q hy
                · obtain rfl : j = i := by omega
                  rw [HCI.out] at hy
                  cases hy
                  exact HMT.out⟩
              go_wp2_with fail
              go_roundw
              case rel => exact ⟨i + 1, by omega, rfl, rfl, HM2, HB⟩
              case measure => simp [intOf]; omega
          · have hii : ¬ (i : Int) < (n : Int) := by omega
            have hdi : decide ((i : Int) < (n : Int)) = false := decide_eq_false hii
            have HT2 : Keep (ShOk t1 ∧ t1.sx = s.sx ∧ t1.sy = s.sy ∧ fly L cs 4 s = fly L cs (4 - (k + 1)) t1) := ⟨HT1.out.1, HT1.out.2.1, HT1.out.2.2, by
              rw [HT.out.2.2.2, show 4 - k = (4 - (k + 1)) + 1 by have := HK.out.1; omega, fly_on HSD.out (by rw [HN.out]; exact find_none (fun j y hj hy => HM.out j y (by rw [HNN.out] at hj; omega) hy)), HN.out]⟩
            go_wp2_with fail
            go_roundw
            case rel => exact ⟨k + 1, t1, by have := HK.out.1; omega, rfl, rfl, HT2, HB⟩
            case measure => have := HK.out.1; simp [intOf]; omega
      · have hki : ¬ (k : Int) < 4 := by omega
        have hdk : decide ((k : Int) < 4) = false := decide_eq_false hki
        have HE : Keep ((rS, rH, rO) = fin t none) := ⟨by
          rw [← HMV.out, mov, HT.out.2.2.2, show 4 - k = 0 by omega]
          rfl⟩
        have y6 : wr.cell? ⟨xb, 6, none⟩ = some (iv t.lf) := (HB.out.boxGet k0m).cellv 6 _ rfl
        have f6 : wr.frozen? ⟨xb, 6, none⟩ = false := (HB.out.boxGet k0m).frozen 6
        have S6 := HB.out.boxPut 6 (iv (w64 (t.lf - 1)))
        have kL : IntKind.i64.wrap (t.lf - 1) = w64 (t.lf - 1) := rfl
        generalize w64 (t.lf - 1) = lf2 at S6 kL
        have HE2 : Keep ((rS, rH, rO) = ({ t with lf := lf2 }, (-1 : Int), decide (0 < lf2))) := ⟨by rw [HE.out, fin, ← kL]; rfl⟩
        obtain ⟨w7, hw7⟩ : ∃ w4, wr.setCell ⟨xb, 6, none⟩ (iv lf2) = w4 := ⟨_, rfl⟩
        rw [hw7] at S6
        change Sep w w7 [boxA xb (shv { t with lf := lf2 }) 26, boxA tb [iv (s.sx / 4), iv (s.sy / 4)] 24, boxA rb zS7 26] at S6
        obtain ⟨t2, ht2⟩ : ∃ t1 : Sh, ({ t with lf := lf2 } : Sh) = t1 := ⟨_, rfl⟩
        have HLF : Keep (t2.lf = lf2) := ⟨by rw [← ht2]⟩
        rw [ht2] at S6 HE2
        clear HB HE ht2
        have HB : Keep (Sep w w7 [boxA rb zS7 26, boxA xb (shv t2) 26, boxA tb [iv (s.sx / 4), iv (s.sy / 4)] 24]) := ⟨S6.third⟩
        clear S6
        go_wp2_with fail
        replace HB := Keep.mk (HB.out.grown (gr_drew _ none))
        refine region_X (S := fun w' => Sep w w' [boxA xb (shv t2) 26, boxA tb [iv (s.sx / 4), iv (s.sy / 4)] 24]) [] (by kernel_rfl) HB.out.tail (fun hHeld => ?_)
        obtain ⟨W0, hW0⟩ : ∃ W_, w7.drew = W_ := ⟨_, rfl⟩
        rw [hW0] at HB hHeld ⊢
        clear hW0
        refine wpAnyX_take (i := 0) (oi := _) (v := _) rfl (by kernel_rfl) (by kernel_rfl) (by kernel_rfl) (by kernel_rfl) (by kernel_rfl) (fun _ _ _ h => h) (yieldsIf_load_mid (by rfl) 26 _ rfl _ _ rfl _ _ (fun w_ hS_ => (hS_.boxGet k0m).range) hds hdsr (infoS' t2)) (by assumption) ?_
        simp only [Act.put, List.getElem_toArray, List.getElem_cons_zero, List.setIfInBounds_toArray, List.set_cons_zero, List.set_cons_succ]
        refine wpAnyX_take (i := 1) (oi := _) (v := ?_) rfl (by kernel_rfl) (by kernel_rfl) (by kernel_rfl) (by kernel_rfl) (by kernel_rfl) (fun _ _ _ h => h) (Or.inl ⟨by rfl, ?_⟩) (by assumption) ?_
        rotate_left
        · (intro w hSw; go_simp; first | done | (with_reducible rfl))
        simp only [Act.put, List.getElem_toArray, List.getElem_cons_succ, List.getElem_cons_zero, List.setIfInBounds_toArray, List.set_cons_zero, List.set_cons_succ]
        refine wpAnyX_take (i := 2) (oi := _) (v := ?_) rfl (by kernel_rfl) (by kernel_rfl) (by kernel_rfl) (by kernel_rfl) (by kernel_rfl) (fun _ _ _ h => h) (Or.inl ⟨by rfl, ?_⟩) (by assumption) ?_
        rotate_left
        · (intro w hSw; have q6 := (hSw.boxGet k0m).cellv 6 _ rfl; go_simp; first | done | (with_reducible rfl))
        simp only [Act.put, List.getElem_toArray, List.getElem_cons_succ, List.getElem_cons_zero, List.setIfInBounds_toArray, List.set_cons_zero, List.set_cons_succ]
        refine wpAnyX_take (i := 3) (oi := _) (v := ?_) rfl (by kernel_rfl) (by kernel_rfl) (by kernel_rfl) (by kernel_rfl) (by kernel_rfl) (fun _ _ _ h => h) (Or.inl ⟨by rfl, ?_⟩) (by assumption) ?_
        rotate_left
        · (intro w hSw; go_simp; first | done | (with_reducible rfl))
        simp only [Act.put, List.getElem_toArray, List.getElem_cons_succ, List.getElem_cons_zero, List.setIfInBounds_toArray, List.set_cons_zero, List.set_cons_succ]
        refine wpAnyX_one (i := 4) (by kernel_rfl) rfl (fun K hK => ?_)
        rw [if_pos (show Region.wanted _ _ = true from rfl)]
        refine wp_store_mid 26 _ _ rfl rb 0 (shv t2).toArray rfl rfl ((HB.out.boxGet k0m).there 0 7 (Nat.le_refl _)) infoS (all_oneCell_toArray (shv_one t2)) ?_
        have S_ := HB.out.boxTurn ((HB.out.boxGet k0m).setCells (shv t2) 0) (gr_sets _ _ _ _)
        rw [over_all zS7 (shv t2) rfl] at S_
        refine hK.out _ _ S_.tail (fun hHeld => ?_)
        replace HB := Keep.mk S_
        clear hK K S_
        change Keep (Sep w (World.setCells W0 rb 0 (shv t2).toArray.toList) _) at HB
        generalize World.setCells W0 rb 0 (shv t2).toArray.toList = ws1 at HB hHeld ⊢
        simp only [Act.put, List.getElem_toArray, List.getElem_cons_succ, List.getElem_cons_zero]
        refine wpAnyX_take (i := 5) (oi := _) (v := ?_) rfl (by kernel_rfl) (by kernel_rfl) (by kernel_rfl) (by kernel_rfl) (by kernel_rfl) (fun _ _ _ h => h) (Or.inl ⟨by rfl, ?_⟩) (by assumption) ?_
        rotate_left
        · (intro w hSw; go_simp; first | done | (with_reducible rfl))
        simp only [Act.put, List.getElem_toArray, List.getElem_cons_succ, List.getElem_cons_zero, List.setIfInBounds_toArray, List.set_cons_zero, List.set_cons_succ]
        refine wpAnyX_take (i := 6) (oi := _) (v := ?_) rfl (by kernel_rfl) (by kernel_rfl) (by kernel_rfl) (by kernel_rfl) (by kernel_rfl) (fun _ _ _ h => h) (Or.inl ⟨by rfl, ?_⟩) (by assumption) ?_
        rotate_left
        · (intro w hSw; go_simp; first | done | (with_reducible rfl))
        simp only [Act.put, List.getElem_toArray, List.getElem_cons_succ, List.getElem_cons_zero, List.setIfInBounds_toArray, List.set_cons_zero, List.set_cons_succ]
        refine wpAnyX_done (by kernel_rfl) ?_ _
        clear hHeld
        go_wp2_with fail
        simp only [Exit.jump]
        obtain ⟨e1, e2, e3⟩ : rS = t2 ∧ rH = -1 ∧ rO = decide (0 < lf2) := by
          have := HE2.out
          injection this with q1 q2
          injection q2 with q2 q3
          exact ⟨q1, q2, q3⟩
        rw [← HLF.out] at e3
        subst e1 e2 e3
        exact ret_ctt rfl rfl (HB.out.boxGet k0m) hds hdsr (infoS' rS) rfl ⟨rfl, HB.out.g⟩
  · rintro a' w' ⟨t, h, v9, v11, v12, v13, v14, v15, v16, v17, v18, v19, v20, v21, v22, v23, v24, v25, v26, v27, v28, v29, v30, v31, v32, v33, v34, v35, v36, v37, v38, v39, v40, v41, v42, v43, v44, v45, v46, v47, v48, v49, v50, v51, v52, v53, v54, v55, rfl, HR, HB⟩
    clear HS HW hn
    have RN := Keep.mk (HB.out.boxGet k0m).range
    have HX := Keep.mk (HB.out.boxGet k2m)
    have HO := Keep.mk (shv_one t)
    go_wp2_with (first
      | (show wpList _ _ _ ({ dst := _, op := Op.load 26 _, type := _, pos := _, after := _, guard := _ } :: _) _ _
         refine load_g (by rfl) 26 _ rfl _ _ rfl _ _ RN.out hds hdsr (infoS' t) ?_)
      | (show wpList _ _ _ ({ dst := _, op := Op.store 26 _ _, type := _, pos := _, after := _, guard := _ } :: _) _ _
         refine store_at _ rb 0 zS7 (shv t) 26 26 rfl rfl rfl rfl HX.out (Nat.le_refl _) (infoS' t) HO.out ?_))
    intro w5 hS5 g5
    have S5 := hS5 _ _ HB.out.third
    rw [over_all zS7 (shv t) rfl] at S5
    replace HB := Keep.mk S5
    clear hS5 g5 S5 HX RN
    go_wp2_with fail
    simp only [Exit.jump]
    obtain ⟨e1, e2, e3⟩ : rS = t ∧ rH = h ∧ rO = false := by
      have := HR.out
      injection this with q1 q2
      injection q2 with q2 q3
      exact ⟨q1, q2, q3⟩
    subst e1 e2 e3
    exact ret_ctt rfl rfl (HB.out.boxGet k0m) hds hdsr (infoS' rS) rfl ⟨rfl, HB.out.g⟩
end Go.Proofs.YtmacmoikjgmaoaaDoor.Bo
