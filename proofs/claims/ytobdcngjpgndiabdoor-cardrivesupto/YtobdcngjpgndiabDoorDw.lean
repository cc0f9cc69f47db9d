/- CarDrives: the walk -/
import Derived.Test.YtobdcngjpgndiabDoorDr
import Derived.Test.YtobdcngjpgndiabDoorBk
import Derived.Test.YtobdcngjpgndiabDoorE4
import Derived.Test.YtobdcngjpgndiabDoorK1
namespace Go.Proofs.YtobdcngjpgndiabDoor.Bo
open Go Go.RowKit

theorem wpList_want {P : Program} {ops : Array Oper} {rest : List Oper} {o : Oper} {a : Act} {w : World} {Q : Exit → Act → World → Prop} (hw : Region.wanted o (yielded ops a.tmps) = true)
    (h : ∀ K : Act → World → Prop, (∀ a w, wpList P ops Q rest a w → K a w) → o.wp P a w K Q) : wpList P ops Q (o :: rest) a w :=
  wpList_step fun K hK => by rw [if_pos hw]; exact h K hK
/-- a load under a guard that holds -/
theorem load_g {P : Program} {ops : Array Oper} {rest : List Oper} {op : Oper} {a : Act} {w : World} {Q : Exit → Act → World → Prop} (hw : Region.wanted op (yielded ops a.tmps) = true) (ty : TypeId) (x : Operand) (ho : op.op = .load ty x)
    (b o : Nat) (hx : a.eval x = .pointer (some ⟨b, o, none⟩)) (cs : List Value) (d : TypeDesc) (hc : w.rangeAt b o cs)
    (hu : P.underlying ty = some d) (hd : d.isRow = true) (hi : (P.info? ty).map (·.size) = some cs.length)
    (h : wpList P ops Q rest (a.put op.dst (.agg cs.toArray)) w) : wpList P ops Q (op :: rest) a w :=
  wpList_want hw fun _ hK => wp_load_mid ty x ho b o hx cs d hc hu hd hi (hK _ _ h)
theorem zC14_lit : zC14 = [iv 0, .string ⟨#[]⟩, iv 0, iv 0, iv 0, iv 0, iv 0, iv 0, iv 0, iv 0, iv 0, iv 0, iv 0, iv 0] := rfl
set_option maxRecDepth 100000 in
theorem built34z : Tryd.prog.built 34 [] = some (itv ⟨0, 0, 0, false, false⟩).toArray := by kernel_rfl
set_option maxRecDepth 100000 in
set_option maxHeartbeats 64000000 in
theorem drives_c (w : World) (s : ByteArray) (c0 : Cr) (v : Value) (Ls : List It) (hs : s.size ≤ 1048576) (ok0 : CrOk c0) (hI : Its w v Ls) (hk : Kc w) :
    Calls Tryd.prog 3 #[.string s, .agg (crv c0).toArray, v] w fun e w' => e = .returned (.bool true) ∧ w.grownBy w' none := by
  obtain ⟨du, hdu, hdr⟩ := underC
  obtain ⟨dI, hdI, hdIr⟩ := underI
  have S1 := (Sep.nil w).newBox (crv c0).toArray 25
  obtain ⟨W1, hW1⟩ : ∃ W1, w.alloc (.cells (crv c0).toArray 25) = W1 := ⟨_, rfl⟩
  obtain ⟨xb, hxb⟩ : ∃ xb, w.heap.size = xb := ⟨_, rfl⟩
  rw [hW1, hxb] at S1
  change Sep w W1 [boxA xb (crv c0) 25] at S1
  have hsx : (crv c0).toArray.size = 14 := rfl
  have hBo := both_c W1 s hs
  have HSW := Keep.mk S1
  have HKW := Keep.mk hk
  have HAL := Keep.mk (fun W (g : w.grownBy W none) => alive_c W (hk.kept g))
  obtain ⟨a0, cap, rfl, _⟩ := hI.o
  have hn := hI.n
  have HI := Keep.mk hI
  have HO0 := Keep.mk ok0
  clear S1 hk hI ok0 hs
  obtain ⟨n, hnn⟩ : ∃ n, Ls.length = n := ⟨_, rfl⟩
  rw [hnn] at hn HI
  rw [hnn]
  have HNN := Keep.mk hnn
  clear hnn
  go_enter Tryd.func3, Tryd.ntmps3
  go_wp2_with fail
  refine hBo.mono ?_
  rintro e w1 ⟨g1, h1⟩
  replace HSW := Keep.mk (HSW.out.grown g1)
  clear hBo g1 hW1 hxb
  rcases h1 with rfl | ⟨kb, kk, L, hne, rfl, hB, hR⟩
  · go_wp2_with fail
    refine (HAL.out _ HSW.out.g).mono ?_
    rintro e w2 ⟨rfl, g2⟩
    have HG := Keep.mk (HSW.out.g.trans g2)
    clear g2
    go_wp2_with fail
    go_ret
    exact ⟨rfl, HG.out⟩
  have HBD := Keep.mk (And.intro hB hR)
  clear hB hR hne
  go_wp2_with fail
  refine (HAL.out _ HSW.out.g).mono ?_
  rintro e w2 ⟨rfl, g2⟩
  replace HSW := Keep.mk (HSW.out.grown g2)
  replace HBD := Keep.mk (And.intro (HBD.out.1.kept g2) (HBD.out.2.kept g2))
  clear g2 HAL
  go_wp2_with fail
  go_loopw [10] (fun u wr => ∃ (i : Nat) (c : Cr), i ≤ 200 ∧ u = iv i ∧ Keep (CrOk c) ∧ Keep (Sep w wr [boxA xb (crv c) 25]) ∧ Keep (Bd wr (pt kb) L ∧ RB wr (pt kk) L)) (fun u _ => (200 - intOf u).toNat)
  case atStart => exact ⟨0, c0, by omega, rfl, HO0, HSW, HBD⟩
  case round =>
    obtain ⟨i, c, hi2, rfl, HOC, hR1, hR2⟩ := hrel
    clear HSW HBD
    have HSW := hR1
    have HBD := hR2
    clear hR1 hR2
    have HX : Keep (Has wr xb (crv c) 25) := ⟨HSW.out.boxGet k0m⟩
    have HB : Keep (Sep wr wr []) := ⟨Sep.nil wr⟩
    have hcond : (i < n ∧ i < 200) ∨ ¬ i < n ∨ (i < n ∧ ¬ i < 200) := by omega
    rcases hcond with ⟨hin, h200⟩ | hout
    · have hi1 : (i : Int) < (n : Nat) := by omega
      have hi3 : (i : Int) < 200 := by omega
      have hdi : decide ((i : Int) < (n : Int)) = true := decide_eq_true hi1
      have hd200 : decide ((i : Int) < 200) = true := decide_eq_true hi3
      have hti : ((i : Nat) : Int).toNat = i := by omega
      have hii : IntKind.i64.wrap ((i : Int) + 1) = ((i + 1 : Nat) : Int) := by rw [wi _ (by omega) (by omega)]; omega
      obtain ⟨it, hit⟩ : ∃ it, Ls[i]? = some it := ⟨_, List.getElem?_eq_getElem (by rw [HNN.out]; exact hin)⟩
      obtain ⟨a1, cap1, ea, hcells⟩ := HI.out.o
      obtain ⟨g, o, eg, hcl⟩ := hcells (by rw [HNN.out]; omega)
      injection ea with ea1 ea2 ea3
      subst ea1
      subst eg
      have HIR : Keep (∀ W, wr.grownBy W none → W.rangeAt g (o + i * 5) (itv it)) := ⟨fun W gW j v hv => (HSW.out.g.trans gW).cell (hcl i it hit j v hv) (by simp)⟩
      clear ea2 ea3 hcells hcl hit
      have HDR := Keep.mk (fun W (g : wr.grownBy W none) => drive_c W (pt kb) L c it HOC.out (HBD.out.1.kept g) (HKW.out.kept (HSW.out.g.trans g)))
      have HRD := Keep.mk (fun W (g : wr.grownBy W none) => rdrive_c W (pt kk) L c it HOC.out (HBD.out.2.kept g) (HKW.out.kept (HSW.out.g.trans g)))
      have HOD : Keep (CrOk (drvC L c it)) := ⟨drv_ok L HOC.out it⟩
      generalize drvC L c it = d at *
      go_upto_region 9 with fail
      go_cut [11] (fun sv wx => ∃ nb u, u = wx ∧ sv = pt nb ∧ Keep (Sep wr u [boxA nb (crv d) 25]))
      case first =>
        refine region_X (S := fun w' => Sep wr w' []) [] (by kernel_rfl) (HB.out.grown (gr_drew _ _)) (fun hHeld => ?_)
        replace HB := Keep.mk hHeld
        refine wpAnyX_take (i := 0) (oi := _) (v := ?_) rfl (by kernel_rfl) (by kernel_rfl) (by kernel_rfl) (by kernel_rfl) (by kernel_rfl) (fun _ _ _ h => h) (Or.inl ⟨by rfl, ?_⟩) (by assumption) ?_
        rotate_left
        · (intro w hSw; go_simp; first | done | (with_reducible rfl))
        simp only [Act.put, List.getElem_toArray, List.getElem_cons_zero, List.setIfInBounds_toArray, List.set_cons_zero, List.set_cons_succ]
        refine wpAnyX_take (i := 1) (oi := _) (v := _) rfl (by kernel_rfl) (by kernel_rfl) (by kernel_rfl) (by kernel_rfl) (by kernel_rfl) (fun _ _ _ h => h) (yieldsIf_load_mid (by rfl) 25 _ rfl _ _ rfl _ _ (fun w_ hS_ => (HX.out.kept hS_.g (by simp)).range) hdu hdr (infoC' c)) (by assumption) ?_
        simp only [Act.put, List.getElem_toArray, List.getElem_cons_succ, List.getElem_cons_zero, List.setIfInBounds_toArray, List.set_cons_zero, List.set_cons_succ]
        refine wpAnyX_take (i := 2) (oi := _) (v := ?_) rfl (by kernel_rfl) (by kernel_rfl) (by kernel_rfl) (by kernel_rfl) (by kernel_rfl) (fun _ _ _ h => h) (Or.inl ⟨by rfl, ?_⟩) (by assumption) ?_
        rotate_left
        · (intro w hSw; go_simp; first | done | (with_reducible rfl))
        simp only [Act.put, List.getElem_toArray, List.getElem_cons_succ, List.getElem_cons_zero, List.setIfInBounds_toArray, List.set_cons_zero, List.set_cons_succ]
        refine wpAnyX_take (i := 3) (oi := _) (v := ?_) rfl (by kernel_rfl) (by kernel_rfl) (by kernel_rfl) (by kernel_rfl) (by kernel_rfl) (fun _ _ _ h => h) (Or.inl ⟨by rfl, ?_⟩) (by assumption) ?_
        rotate_left
        · (intro w hSw; go_simp; first | done | (with_reducible rfl))
        simp only [Act.put, List.getElem_toArray, List.getElem_cons_succ, List.getElem_cons_zero, List.setIfInBounds_toArray, List.set_cons_zero, List.set_cons_succ]
        refine wpAnyX_take (i := 4) (oi := _) (v := ?_) rfl (by kernel_rfl) (by kernel_rfl) (by kernel_rfl) (by kernel_rfl) (by kernel_rfl) (fun _ _ _ h => h) (Or.inl ⟨by rfl, ?_⟩) (by assumption) ?_
        rotate_left
        · (intro w hSw; go_simp; first | done | (with_reducible rfl))
        simp only [Act.put, List.getElem_toArray, List.getElem_cons_succ, List.getElem_cons_zero, List.setIfInBounds_toArray, List.set_cons_zero, List.set_cons_succ]
        refine wpAnyX_take (i := 5) (oi := _) (v := _) rfl (by kernel_rfl) (by kernel_rfl) (by kernel_rfl) (by kernel_rfl) (by kernel_rfl) (fun _ _ _ h => h) (yieldsIf_load_mid (by rfl) 34 _ rfl _ _ rfl _ _ (fun w_ hS_ => HIR.out w_ hS_.g) hdI hdIr infoI) (by assumption) ?_
        simp only [Act.put, List.getElem_toArray, List.getElem_cons_succ, List.getElem_cons_zero, List.setIfInBounds_toArray, List.set_cons_zero, List.set_cons_succ]
        obtain ⟨W0, hW0⟩ : ∃ W_, wr.drew = W_ := ⟨_, rfl⟩
        rw [hW0] at HB hHeld ⊢
        clear hW0
        refine wpAnyX_two (i := 6) (j := 7) (by kernel_rfl) rfl rfl (fun K hK => ?_) (fun K hK => ?_)
        · skip
          go_simp
          refine (HRD.out _ HB.out.g).mono ?_
          rintro e wg ⟨rfl, hg⟩
          replace HB := Keep.mk (HB.out.grown hg)
          refine hK.out _ _ HB.out (fun hHeld => ?_)
          clear hK K hg
          refine wpAnyX_one (i := 7) (by kernel_rfl) rfl (fun K hK => ?_)
          have S_ := HB.out.newBox zC14.toArray 25
          obtain ⟨wa, hwa⟩ : ∃ W_, wg.alloc (.cells zC14.toArray 25) = W_ := ⟨_, rfl⟩
          obtain ⟨nb, hnb⟩ : ∃ b_, wg.heap.size = b_ := ⟨_, rfl⟩
          rw [hwa, hnb] at S_
          rw [zC14_lit] at hwa
          replace HB := Keep.mk S_
          clear S_
          go_simp
          refine hK.out _ _ HB.out.tail (fun hHeld => ?_)
          clear hK K
          refine wpAnyX_one (i := 8) (by kernel_rfl) rfl (fun K hK => ?_)
          rw [if_pos (show Region.wanted _ _ = true from rfl)]
          refine wp_store_mid 25 _ _ rfl nb 0 (crv d).toArray rfl rfl ((HB.out.boxGet k0m).there 0 14 (Nat.le_refl _)) infoC (all_oneCell_toArray (crv_one d)) ?_
          have S_ := HB.out.boxTurn ((HB.out.boxGet k0m).setCells (crv d) 0) (gr_sets _ _ _ _)
          rw [over_all zC14 (crv d) rfl] at S_
          refine hK.out _ _ S_.tail (fun hHeld => ?_)
          replace HB := Keep.mk S_
          clear hK K S_
          change Keep (Sep wr (World.setCells wa nb 0 (crv d).toArray.toList) _) at HB
          generalize World.setCells wa nb 0 (crv d).toArray.toList = w9 at HB hHeld ⊢
          simp only [Act.put, List.getElem_toArray, List.getElem_cons_succ, List.getElem_cons_zero]
          refine wpAnyX_done (by kernel_rfl) ?_ _
          clear hHeld
          go_wp2_with fail
          go_meet
          exact ⟨nb, _, rfl, rfl, HB⟩
        · skip
          have S_ := HB.out.newBox zC14.toArray 25
          obtain ⟨wa, hwa⟩ : ∃ W_, W0.alloc (.cells zC14.toArray 25) = W_ := ⟨_, rfl⟩
          obtain ⟨nb, hnb⟩ : ∃ b_, W0.heap.size = b_ := ⟨_, rfl⟩
          rw [hwa, hnb] at S_
          rw [zC14_lit] at hwa
          replace HB := Keep.mk S_
          clear S_
          go_simp
          refine hK.out _ _ HB.out.tail (fun hHeld => ?_)
          clear hK K
          refine wpAnyX_one (i := 6) (by kernel_rfl) rfl (fun K hK => ?_)
          go_simp
          refine (HRD.out _ HB.out.g).mono ?_
          rintro e wg ⟨rfl, hg⟩
          replace HB := Keep.mk (HB.out.grown hg)
          refine hK.out _ _ HB.out.tail (fun hHeld => ?_)
          clear hK K hg
          refine wpAnyX_one (i := 8) (by kernel_rfl) rfl (fun K hK => ?_)
          rw [if_pos (show Region.wanted _ _ = true from rfl)]
          refine wp_store_mid 25 _ _ rfl nb 0 (crv d).toArray rfl rfl ((HB.out.boxGet k0m).there 0 14 (Nat.le_refl _)) infoC (all_oneCell_toArray (crv_one d)) ?_
          have S_ := HB.out.boxTurn ((HB.out.boxGet k0m).setCells (crv d) 0) (gr_sets _ _ _ _)
          rw [over_all zC14 (crv d) rfl] at S_
          refine hK.out _ _ S_.tail (fun hHeld => ?_)
          replace HB := Keep.mk S_
          clear hK K S_
          change Keep (Sep wr (World.setCells wg nb 0 (crv d).toArray.toList) _) at HB
          generalize World.setCells wg nb 0 (crv d).toArray.toList = w9 at HB hHeld ⊢
          simp only [Act.put, List.getElem_toArray, List.getElem_cons_succ, List.getElem_cons_zero]
          refine wpAnyX_done (by kernel_rfl) ?_ _
          clear hHeld
          go_wp2_with fail
          go_meet
          exact ⟨nb, _, rfl, rfl, HB⟩
      case rest =>
      clear HB HRD
      obtain ⟨nb, W6, rfl, rfl, HB⟩ := hcut
      go_upto_region 10 with fail
      go_cut [51] (fun sv wx => ∃ u, u = wx ∧ sv = .bool false ∧ Keep (Sep wr u [boxA nb (crv d) 25]))
      case first =>
        refine region_X (S := fun w' => Sep wr w' [boxA nb (crv d) 25]) [] (by kernel_rfl) (HB.out.grown (gr_drew _ _)) (fun hHeld => ?_)
        replace HB := Keep.mk hHeld
        refine wpAnyX_take (i := 0) (oi := _) (v := ?_) rfl (by kernel_rfl) (by kernel_rfl) (by kernel_rfl) (by kernel_rfl) (by kernel_rfl) (fun _ _ _ h => h) (Or.inl ⟨by rfl, ?_⟩) (by assumption) ?_
        rotate_left
        · (intro w hSw; go_simp; first | done | (with_reducible rfl))
        simp only [Act.put, List.getElem_toArray, List.getElem_cons_zero, List.setIfInBounds_toArray, List.set_cons_zero, List.set_cons_succ]
        refine wpAnyX_take (i := 1) (oi := _) (v := _) rfl (by kernel_rfl) (by kernel_rfl) (by kernel_rfl) (by kernel_rfl) (by kernel_rfl) (fun _ _ _ h => h) (yieldsIf_load_mid (by rfl) 25 _ rfl _ _ rfl _ _ (fun w_ hS_ => (HX.out.kept hS_.g (by simp)).range) hdu hdr (infoC' c)) (by assumption) ?_
        simp only [Act.put, List.getElem_toArray, List.getElem_cons_succ, List.getElem_cons_zero, List.setIfInBounds_toArray, List.set_cons_zero, List.set_cons_succ]
        refine wpAnyX_take (i := 2) (oi := _) (v := ?_) rfl (by kernel_rfl) (by kernel_rfl) (by kernel_rfl) (by kernel_rfl) (by kernel_rfl) (fun _ _ _ h => h) (Or.inl ⟨by rfl, ?_⟩) (by assumption) ?_
        rotate_left
        · (intro w hSw; go_simp; first | done | (with_reducible rfl))
        simp only [Act.put, List.getElem_toArray, List.getElem_cons_succ, List.getElem_cons_zero, List.setIfInBounds_toArray, List.set_cons_zero, List.set_cons_succ]
        refine wpAnyX_take (i := 3) (oi := _) (v := ?_) rfl (by kernel_rfl) (by kernel_rfl) (by kernel_rfl) (by kernel_rfl) (by kernel_rfl) (fun _ _ _ h => h) (Or.inl ⟨by rfl, ?_⟩) (by assumption) ?_
        rotate_left
        · (intro w hSw; go_simp; first | done | (with_reducible rfl))
        simp only [Act.put, List.getElem_toArray, List.getElem_cons_succ, List.getElem_cons_zero, List.setIfInBounds_toArray, List.set_cons_zero, List.set_cons_succ]
        refine wpAnyX_take (i := 4) (oi := _) (v := ?_) rfl (by kernel_rfl) (by kernel_rfl) (by kernel_rfl) (by kernel_rfl) (by kernel_rfl) (fun _ _ _ h => h) (Or.inl ⟨by rfl, ?_⟩) (by assumption) ?_
        rotate_left
        · (intro w hSw; go_simp; first | done | (with_reducible rfl))
        simp only [Act.put, List.getElem_toArray, List.getElem_cons_succ, List.getElem_cons_zero, List.setIfInBounds_toArray, List.set_cons_zero, List.set_cons_succ]
        refine wpAnyX_take (i := 5) (oi := _) (v := _) rfl (by kernel_rfl) (by kernel_rfl) (by kernel_rfl) (by kernel_rfl) (by kernel_rfl) (fun _ _ _ h => h) (yieldsIf_load_mid (by rfl) 34 _ rfl _ _ rfl _ _ (fun w_ hS_ => HIR.out w_ hS_.g) hdI hdIr infoI) (by assumption) ?_
        simp only [Act.put, List.getElem_toArray, List.getElem_cons_succ, List.getElem_cons_zero, List.setIfInBounds_toArray, List.set_cons_zero, List.set_cons_succ]
        refine wpAnyX_take (i := 7) (oi := _) (v := _) rfl (by kernel_rfl) (by kernel_rfl) (by kernel_rfl) (by kernel_rfl) (by kernel_rfl) (fun _ _ _ h => h) (yieldsIf_load_mid (by rfl) 25 _ rfl _ _ rfl _ _ (fun w_ hS_ => (hS_.boxGet k0m).range) hdu hdr (infoC' d)) (by assumption) ?_
        simp only [Act.put, List.getElem_toArray, List.getElem_cons_succ, List.getElem_cons_zero, List.setIfInBounds_toArray, List.set_cons_zero, List.set_cons_succ]
        refine wpAnyX_one (i := 6) (by kernel_rfl) rfl (fun K hK => ?_)
        go_simp
        refine (HDR.out _ HB.out.g).mono ?_
        rintro e wg ⟨rfl, hg⟩
        replace HB := Keep.mk (HB.out.grown hg)
        refine hK.out _ _ HB.out (fun hHeld => ?_)
        clear hK K hg
        refine wpAnyX_take (i := 8) (oi := _) (v := ?_) rfl (by kernel_rfl) (by kernel_rfl) (by kernel_rfl) (by kernel_rfl) (by kernel_rfl) (fun _ _ _ h => h) (Or.inl ⟨by rfl, ?_⟩) (by assumption) ?_
        rotate_left
        · (intro w hSw; have hE := eq32 d w; go_simp; first | done | (with_reducible rfl))
        simp only [Act.put, List.getElem_toArray, List.getElem_cons_succ, List.getElem_cons_zero, List.setIfInBounds_toArray, List.set_cons_zero, List.set_cons_succ]
        refine wpAnyX_done (by kernel_rfl) ?_ _
        go_wp2_with fail
        go_meet
        exact ⟨_, rfl, rfl, HB⟩
      case rest =>
      clear HB HDR HIR
      obtain ⟨W7, rfl, rfl, HB⟩ := hcut
      have HS2 := Keep.mk (HSW.out.grown HB.out.g)
      have HBD2 := Keep.mk (And.intro (HBD.out.1.kept HB.out.g) (HBD.out.2.kept HB.out.g))
      have RN11 := Keep.mk (HB.out.boxGet k0m).range
      have HX_ := Keep.mk (HS2.out.boxGet k0m)
      have HO_ := Keep.mk (crv_one d)
      clear HB HSW HBD HX
      go_wp2_with (first
        | (show wpList _ _ _ ({ dst := _, op := Op.load 25 (Operand.tmp 11), type := _, pos := _, after := _, guard := _ } :: _) _ _
           refine load_g (by rfl) 25 _ rfl _ _ rfl _ _ RN11.out hdu hdr (infoC' d) ?_)
        | (show wpList _ _ _ ({ dst := _, op := Op.store 25 (Operand.tmp 4) _, type := _, pos := _, after := _, guard := _ } :: _) _ _
           refine store_at _ xb 0 (crv c) (crv d) 25 25 rfl rfl rfl rfl HX_.out (Nat.le_refl _) (infoC' d) HO_.out ?_))
      intro w2_ hS_ g_
      have S_ := hS_ _ _ HS2.out
      rw [over_all (crv c) (crv d) rfl] at S_
      have HS3 := Keep.mk S_
      have HBD3 := Keep.mk (And.intro (HBD2.out.1.keptX HX_.out g_) (HBD2.out.2.keptX HX_.out g_))
      clear S_ hS_ g_ HX_ HO_ RN11 HS2 HBD2
      go_wp2_with fail
      go_roundw
      case rel => exact ⟨i + 1, d, by omega, rfl, HOD, HS3, HBD3⟩
      case measure => simp [intOf]; omega
    · have hdo : (decide ((i : Int) < (n : Int)) = false) ∨ (decide ((i : Int) < (n : Int)) = true ∧ decide ((i : Int) < 200) = false) := by
        rcases hout with h | ⟨h1, h2⟩
        · exact .inl (decide_eq_false (by omega))
        · exact .inr ⟨decide_eq_true (by omega), decide_eq_false (by omega)⟩
      have HDR := Keep.mk (fun W (g : wr.grownBy W none) => drive_c W (pt kb) L c ⟨0, 0, 0, false, false⟩ HOC.out (HBD.out.1.kept g) (HKW.out.kept (HSW.out.g.trans g)))
      have HRD := Keep.mk (fun W (g : wr.grownBy W none) => rdrive_c W (pt kk) L c ⟨0, 0, 0, false, false⟩ HOC.out (HBD.out.2.kept g) (HKW.out.kept (HSW.out.g.trans g)))
      generalize drvC L c ⟨0, 0, 0, false, false⟩ = d at *
      rcases hdo with q | ⟨q1, q2⟩
      · have q' : ¬ (i : Int) < (n : Int) := of_decide_eq_false q
        go_wp2_with fail
        refine region_X (S := fun w' => Sep wr w' []) [] (by kernel_rfl) (HB.out.grown (gr_drew _ _)) (fun hHeld => ?_)
        replace HB := Keep.mk hHeld
        refine wpAnyX_take (i := 0) (oi := _) (v := ?_) rfl (by kernel_rfl) (by kernel_rfl) (by kernel_rfl) (by kernel_rfl) (by kernel_rfl) (fun _ _ _ h => h) (Or.inl ⟨by rfl, ?_⟩) (by assumption) ?_
        rotate_left
        · (intro w hSw; go_simp; first | done | (with_reducible rfl))
        simp only [Act.put, List.getElem_toArray, List.getElem_cons_zero, List.setIfInBounds_toArray, List.set_cons_zero, List.set_cons_succ]
        refine wpAnyX_take (i := 1) (oi := _) (v := _) rfl (by kernel_rfl) (by kernel_rfl) (by kernel_rfl) (by kernel_rfl) (by kernel_rfl) (fun _ _ _ h => h) (yieldsIf_load_mid (by rfl) 25 _ rfl _ _ rfl _ _ (fun w_ hS_ => (HX.out.kept hS_.g (by simp)).range) hdu hdr (infoC' c)) (by assumption) ?_
        simp only [Act.put, List.getElem_toArray, List.getElem_cons_succ, List.getElem_cons_zero, List.setIfInBounds_toArray, List.set_cons_zero, List.set_cons_succ]
        refine wpAnyX_take (i := 2) (oi := _) (v := .agg (itv ⟨0, 0, 0, false, false⟩).toArray) rfl (by kernel_rfl) (by kernel_rfl) (by kernel_rfl) (by kernel_rfl) (by kernel_rfl) (fun _ _ _ h => h) (yieldsIf_build (by rfl) 34 _ rfl _ ?_) (by assumption) ?_
        · refine (congrArg (Tryd.prog.built 34) ?_).trans built34z
          simp only [List.map_toArray, List.map_nil]
        simp only [Act.put, List.getElem_toArray, List.getElem_cons_succ, List.getElem_cons_zero, List.setIfInBounds_toArray, List.set_cons_zero, List.set_cons_succ]
        refine wpAnyX_take (i := 4) (oi := _) (v := ?_) rfl (by kernel_rfl) (by kernel_rfl) (by kernel_rfl) (by kernel_rfl) (by kernel_rfl) (fun _ _ _ h => h) (Or.inl ⟨by rfl, ?_⟩) (by assumption) ?_
        rotate_left
        · (intro w hSw; go_simp; first | done | (with_reducible rfl))
        simp only [Act.put, List.getElem_toArray, List.getElem_cons_succ, List.getElem_cons_zero, List.setIfInBounds_toArray, List.set_cons_zero, List.set_cons_succ]
        refine wpAnyX_take (i := 5) (oi := _) (v := _) rfl (by kernel_rfl) (by kernel_rfl) (by kernel_rfl) (by kernel_rfl) (by kernel_rfl) (fun _ _ _ h => h) (yieldsIf_load_mid (by rfl) 25 _ rfl _ _ rfl _ _ (fun w_ hS_ => (HX.out.kept hS_.g (by simp)).range) hdu hdr (infoC' c)) (by assumption) ?_
        simp only [Act.put, List.getElem_toArray, List.getElem_cons_succ, List.getElem_cons_zero, List.setIfInBounds_toArray, List.set_cons_zero, List.set_cons_succ]
        refine wpAnyX_take (i := 6) (oi := _) (v := .agg (itv ⟨0, 0, 0, false, false⟩).toArray) rfl (by kernel_rfl) (by kernel_rfl) (by kernel_rfl) (by kernel_rfl) (by kernel_rfl) (fun _ _ _ h => h) (yieldsIf_build (by rfl) 34 _ rfl _ ?_) (by assumption) ?_
        · refine (congrArg (Tryd.prog.built 34) ?_).trans built34z
          simp only [List.map_toArray, List.map_nil]
        simp only [Act.put, List.getElem_toArray, List.getElem_cons_succ, List.getElem_cons_zero, List.setIfInBounds_toArray, List.set_cons_zero, List.set_cons_succ]
        refine wpAnyX_one (i := 3) (by kernel_rfl) rfl (fun K hK => ?_)
        go_simp
        refine (HDR.out _ HB.out.g).mono ?_
        rintro e wg ⟨rfl, hg⟩
        replace HB := Keep.mk (HB.out.grown hg)
        refine hK.out _ _ HB.out (fun hHeld => ?_)
        clear hK K hg
        refine wpAnyX_one (i := 7) (by kernel_rfl) rfl (fun K hK => ?_)
        go_simp
        refine (HRD.out _ HB.out.g).mono ?_
        rintro e wg ⟨rfl, hg⟩
        replace HB := Keep.mk (HB.out.grown hg)
        refine hK.out _ _ HB.out (fun hHeld => ?_)
        clear hK K hg
        refine wpAnyX_take (i := 8) (oi := _) (v := ?_) rfl (by kernel_rfl) (by kernel_rfl) (by kernel_rfl) (by kernel_rfl) (by kernel_rfl) (fun _ _ _ h => h) (Or.inl ⟨by rfl, ?_⟩) (by assumption) ?_
        rotate_left
        · (intro w hSw; have hE := eq32 d w; go_simp; first | done | (with_reducible rfl))
        simp only [Act.put, List.getElem_toArray, List.getElem_cons_succ, List.getElem_cons_zero, List.setIfInBounds_toArray, List.set_cons_zero, List.set_cons_succ]
        refine wpAnyX_take (i := 9) (oi := _) (v := ?_) rfl (by kernel_rfl) (by kernel_rfl) (by kernel_rfl) (by kernel_rfl) (by kernel_rfl) (fun _ _ _ h => h) (Or.inl ⟨by rfl, ?_⟩) (by assumption) ?_
        rotate_left
        · (intro w hSw; go_simp; first | done | (with_reducible rfl))
        simp only [Act.put, List.getElem_toArray, List.getElem_cons_succ, List.getElem_cons_zero, List.setIfInBounds_toArray, List.set_cons_zero, List.set_cons_succ]
        refine wpAnyX_done (by kernel_rfl) ?_ _
        go_wp2_with fail
        go_ret
        exact ⟨rfl, HSW.out.g.trans HB.out.g⟩
      · have q1' : (i : Int) < (n : Int) := of_decide_eq_true q1
        have q2' : ¬ (i : Int) < 200 := of_decide_eq_false q2
        go_wp2_with fail
        refine region_X (S := fun w' => Sep wr w' []) [] (by kernel_rfl) (HB.out.grown (gr_drew _ _)) (fun hHeld => ?_)
        replace HB := Keep.mk hHeld
        refine wpAnyX_take (i := 0) (oi := _) (v := ?_) rfl (by kernel_rfl) (by kernel_rfl) (by kernel_rfl) (by kernel_rfl) (by kernel_rfl) (fun _ _ _ h => h) (Or.inl ⟨by rfl, ?_⟩) (by assumption) ?_
        rotate_left
        · (intro w hSw; go_simp; first | done | (with_reducible rfl))
        simp only [Act.put, List.getElem_toArray, List.getElem_cons_zero, List.setIfInBounds_toArray, List.set_cons_zero, List.set_cons_succ]
        refine wpAnyX_take (i := 1) (oi := _) (v := _) rfl (by kernel_rfl) (by kernel_rfl) (by kernel_rfl) (by kernel_rfl) (by kernel_rfl) (fun _ _ _ h => h) (yieldsIf_load_mid (by rfl) 25 _ rfl _ _ rfl _ _ (fun w_ hS_ => (HX.out.kept hS_.g (by simp)).range) hdu hdr (infoC' c)) (by assumption) ?_
        simp only [Act.put, List.getElem_toArray, List.getElem_cons_succ, List.getElem_cons_zero, List.setIfInBounds_toArray, List.set_cons_zero, List.set_cons_succ]
        refine wpAnyX_take (i := 2) (oi := _) (v := .agg (itv ⟨0, 0, 0, false, false⟩).toArray) rfl (by kernel_rfl) (by kernel_rfl) (by kernel_rfl) (by kernel_rfl) (by kernel_rfl) (fun _ _ _ h => h) (yieldsIf_build (by rfl) 34 _ rfl _ ?_) (by assumption) ?_
        · refine (congrArg (Tryd.prog.built 34) ?_).trans built34z
          simp only [List.map_toArray, List.map_nil]
        simp only [Act.put, List.getElem_toArray, List.getElem_cons_succ, List.getElem_cons_zero, List.setIfInBounds_toArray, List.set_cons_zero, List.set_cons_succ]
        refine wpAnyX_take (i := 4) (oi := _) (v := ?_) rfl (by kernel_rfl) (by kernel_rfl) (by kernel_rfl) (by kernel_rfl) (by kernel_rfl) (fun _ _ _ h => h) (Or.inl ⟨by rfl, ?_⟩) (by assumption) ?_
        rotate_left
        · (intro w hSw; go_simp; first | done | (with_reducible rfl))
        simp only [Act.put, List.getElem_toArray, List.getElem_cons_succ, List.getElem_cons_zero, List.setIfInBounds_toArray, List.set_cons_zero, List.set_cons_succ]
        refine wpAnyX_take (i := 5) (oi := _) (v := _) rfl (by kernel_rfl) (by kernel_rfl) (by kernel_rfl) (by kernel_rfl) (by kernel_rfl) (fun _ _ _ h => h) (yieldsIf_load_mid (by rfl) 25 _ rfl _ _ rfl _ _ (fun w_ hS_ => (HX.out.kept hS_.g (by simp)).range) hdu hdr (infoC' c)) (by assumption) ?_
        simp only [Act.put, List.getElem_toArray, List.getElem_cons_succ, List.getElem_cons_zero, List.setIfInBounds_toArray, List.set_cons_zero, List.set_cons_succ]
        refine wpAnyX_take (i := 6) (oi := _) (v := .agg (itv ⟨0, 0, 0, false, false⟩).toArray) rfl (by kernel_rfl) (by kernel_rfl) (by kernel_rfl) (by kernel_rfl) (by kernel_rfl) (fun _ _ _ h => h) (yieldsIf_build (by rfl) 34 _ rfl _ ?_) (by assumption) ?_
        · refine (congrArg (Tryd.prog.built 34) ?_).trans built34z
          simp only [List.map_toArray, List.map_nil]
        simp only [Act.put, List.getElem_toArray, List.getElem_cons_succ, List.getElem_cons_zero, List.setIfInBounds_toArray, List.set_cons_zero, List.set_cons_succ]
        refine wpAnyX_one (i := 3) (by kernel_rfl) rfl (fun K hK => ?_)
        go_simp
        refine (HDR.out _ HB.out.g).mono ?_
        rintro e wg ⟨rfl, hg⟩
        replace HB := Keep.mk (HB.out.grown hg)
        refine hK.out _ _ HB.out (fun hHeld => ?_)
        clear hK K hg
        refine wpAnyX_one (i := 7) (by kernel_rfl) rfl (fun K hK => ?_)
        go_simp
        refine (HRD.out _ HB.out.g).mono ?_
        rintro e wg ⟨rfl, hg⟩
        replace HB := Keep.mk (HB.out.grown hg)
        refine hK.out _ _ HB.out (fun hHeld => ?_)
        clear hK K hg
        refine wpAnyX_take (i := 8) (oi := _) (v := ?_) rfl (by kernel_rfl) (by kernel_rfl) (by kernel_rfl) (by kernel_rfl) (by kernel_rfl) (fun _ _ _ h => h) (Or.inl ⟨by rfl, ?_⟩) (by assumption) ?_
        rotate_left
        · (intro w hSw; have hE := eq32 d w; go_simp; first | done | (with_reducible rfl))
        simp only [Act.put, List.getElem_toArray, List.getElem_cons_succ, List.getElem_cons_zero, List.setIfInBounds_toArray, List.set_cons_zero, List.set_cons_succ]
        refine wpAnyX_take (i := 9) (oi := _) (v := ?_) rfl (by kernel_rfl) (by kernel_rfl) (by kernel_rfl) (by kernel_rfl) (by kernel_rfl) (fun _ _ _ h => h) (Or.inl ⟨by rfl, ?_⟩) (by assumption) ?_
        rotate_left
        · (intro w hSw; go_simp; first | done | (with_reducible rfl))
        simp only [Act.put, List.getElem_toArray, List.getElem_cons_succ, List.getElem_cons_zero, List.setIfInBounds_toArray, List.set_cons_zero, List.set_cons_succ]
        refine wpAnyX_done (by kernel_rfl) ?_ _
        go_wp2_with fail
        go_ret
        exact ⟨rfl, HSW.out.g.trans HB.out.g⟩
end Go.Proofs.YtobdcngjpgndiabDoor.Bo
