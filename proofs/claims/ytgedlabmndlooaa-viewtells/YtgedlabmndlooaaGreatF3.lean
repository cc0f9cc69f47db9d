/- view: ViewTells -/
import Derived.Test.YtgedlabmndlooaaGreatP7
import Derived.Deep.DeepCutAuto
namespace Go.Proofs.YtgedlabmndlooaaGreat
open Go Go.RowKit Go.Maps Go.Shelf Go.Lib Go.Sort

theorem carS_ok {c : Cr} (o : CrOk c) : SnOk (carS c) := ⟨by show I64 1; unfold I64; omega, o.pl, o.x, o.y, o.hd⟩
theorem shoS_ok {s : Sh} (o : ShOk s) : SnOk (shoS s) := ⟨by show I64 2; unfold I64; omega, o.id, o.x, o.y, by show I64 0; unfold I64; omega⟩
theorem bslN (x : Sn) (W : World) : (Instr.buildSlice 27 1 #[(0, .agg (snv x).toArray)]).run Tryz.prog W = .ok (sl W.heap.size 1 1) (W.alloc (.cells (snv x).toArray 33)) := by kernel_rfl
set_option maxRecDepth 100000 in
set_option maxHeartbeats 16000000 in
theorem tells_c (W : World) (tick nx : Int) (vc vs : Value) (LC : List Cr) (LS : List Sh) (p rad sho : Int) (hS : StO W vc vs LC LS) (hn : LC.length + LS.length ≤ 1048576) :
    Calls Tryz.prog 5 #[.agg #[.int .u64 tick, vc, vs, iv nx], .agg #[iv p, iv rad, iv sho]] W fun e W' => e = .returned (.bool true) ∧ W.grownBy W' none := by
  have hc0 := hS.c
  have hs0 := hS.s
  obtain ⟨ac, cc, rfl, hcr⟩ := hS.c
  obtain ⟨az, cz, rfl, hsr⟩ := hS.s
  obtain ⟨nc, hnc⟩ : ∃ n, LC.length = n := ⟨_, rfl⟩
  obtain ⟨ns, hns⟩ : ∃ n, LS.length = n := ⟨_, rfl⟩
  have HNN : Keep (LC.length ≤ 281474976710656) := ⟨by omega⟩
  have HNB := Keep.mk hn
  rw [hnc, hns] at hS ⊢
  rw [hnc] at hc0
  rw [hns] at hs0
  have HSO := Keep.mk (And.intro hc0 hs0)
  have HS := Keep.mk hS
  have HLN := Keep.mk (And.intro hnc hns)
  have HCR := Keep.mk (And.intro hcr hsr)
  have S1 := ((Sep.nil W).newBox #[.int .u64 tick, .slice ac nc cc, .slice az ns cz, iv nx] 37).newBox #[iv p, iv rad, iv sho] 39
  simp only [World.size_alloc] at S1
  obtain ⟨b2, hb2⟩ : ∃ b, W.heap.size = b := ⟨_, rfl⟩
  obtain ⟨b3, hb3⟩ : ∃ b, b2 + 1 = b := ⟨_, rfl⟩
  obtain ⟨W1, hW1⟩ : ∃ w, (W.alloc (.cells #[.int .u64 tick, .slice ac nc cc, .slice az ns cz, iv nx] 37)).alloc (.cells #[iv p, iv rad, iv sho] 39) = w := ⟨_, rfl⟩
  rw [hW1, hb2, hb3] at S1
  have HB : Keep (Sep W W1 (boxA b3 [iv p, iv rad, iv sho] 39 :: boxA b2 [.int .u64 tick, .slice ac nc cc, .slice az ns cz, iv nx] 37 :: [])) := ⟨S1⟩
  obtain ⟨dv, hdv⟩ := under29
  obtain ⟨dc, hdc⟩ := under26
  obtain ⟨ds, hds⟩ := under37
  obtain ⟨du, hdu⟩ := under33
  obtain ⟨dw, hdw⟩ := under24
  clear S1 hS hn hc0 hs0 hcr hsr hnc hns
  go_enter Tryz.func5, Tryz.ntmps5
  go_wp2_with fail
  clear hW1 hb2 hb3
  refine (alive_c W1).mono ?_
  rintro e W2 ⟨rfl, g2⟩
  replace HB := Keep.mk (HB.out.grown g2)
  clear g2
  have HR := Keep.mk ((HB.out.boxGet k1m).range)
  have a0 := (HB.out.boxGet k0m).cellv 0 _ rfl
  have a1 := (HB.out.boxGet k0m).cellv 1 _ rfl
  have a2 := (HB.out.boxGet k0m).cellv 2 _ rfl
  go_wp2_with (first
    | (with_reducible show wpList _ _ _ ({ dst := some 28, op := Op.load 37 _, type := _, pos := _, after := _, guard := _ } :: _) _ _
       refine wpList_load_mid rfl 37 _ rfl _ _ rfl ([.int .u64 tick, .slice ac nc cc, .slice az ns cz, iv nx]) _ HR.out hds.1 hds.2 info37 ?_))
  refine (of_c W2 tick nx p rad sho (.slice ac nc cc) (.slice az ns cz) LC LS (HS.out.kept HB.out.g)).mono ?_
  rintro e W3 hOf
  clear a0 a1 a2 HR
  cases hfd : LC.find? (fun c => c.pl == p) with
  | none =>
    obtain ⟨rfl, g3⟩ := hOf.no hfd
    replace HB := Keep.mk (HB.out.grown g3)
    have HFD := Keep.mk hfd
    clear hOf g3 hfd
    go_wp2_with (first
      | (with_reducible show wpList _ _ _ ({ dst := _, op := Op.store 29 _ _, type := _, pos := _, after := _, guard := _ } :: _) _ _
         refine store_new W3 (zvw) 29 rfl rfl rfl rfl rfl info29 zvw_one ?_))
    intro W4 hS4 g4
    replace HB := Keep.mk (HB.out.grown g4)
    clear hS4 g4
    have HR := Keep.mk ((HB.out.boxGet k1m).range)
    have a0 := (HB.out.boxGet k0m).cellv 0 _ rfl
    go_wp2_with (first
      | (with_reducible show wpList _ _ _ ({ dst := some 41, op := Op.load 37 _, type := _, pos := _, after := _, guard := _ } :: _) _ _
         refine wpList_load_mid rfl 37 _ rfl _ _ rfl ([.int .u64 tick, .slice ac nc cc, .slice az ns cz, iv nx]) _ HR.out hds.1 hds.2 info37 ?_))
    refine (own_c W4 tick nx p (.slice ac nc cc) (.slice az ns cz) LC (HSO.out.1.kept HB.out.g) HNN.out).mono ?_
    rintro e W5 hOw
    obtain rfl := hOw.no HFD.out
    replace HB := Keep.mk (HB.out.grown hOw.g)
    clear a0 HR hOw
    go_wp2_with (first
      | (with_reducible show wpList _ _ _ ({ dst := _, op := Op.store 26 _ _, type := _, pos := _, after := _, guard := _ } :: _) _ _
         refine store_new W5 (zcr) 26 rfl rfl rfl rfl rfl info26 zcr_one ?_))
    intro W6 hS6 g6
    have HG := Keep.mk (HB.out.g.trans g6)
    clear hS6 g6 HB
    go_wp2_with fail
    go_ret
    exact ⟨rfl, HG.out⟩
  | some own =>
    obtain ⟨v, T, rfl, hT, S3⟩ := hOf.yes own hfd
    obtain ⟨aT, cT, rfl⟩ := own_slice (S3.rowGet k0m)
    obtain ⟨n, hnT⟩ : ∃ n, T.length = n := ⟨_, rfl⟩
    have HT := Keep.mk hT
    have HTN := Keep.mk hnT
    rw [hnT] at S3 ⊢
    have HB3 : Keep (Sep W W3 (rowV 33 5 (.slice aT n cT) n (fl snv T) :: boxA b3 [iv p, iv rad, iv sho] 39 :: boxA b2 [.int .u64 tick, .slice ac nc cc, .slice az ns cz, iv nx] 37 :: [])) := ⟨HB.out.join S3⟩
    have HOC : Keep (CrOk own ∧ own.pl = p) := ⟨⟨HS.out.oc own (List.mem_of_find?_eq_some hfd), by have := List.find?_some hfd; simpa using this⟩⟩
    have HVO := Keep.mk (vwv_one tick own (.slice aT n cT) ⟨_, _, _, rfl⟩)
    clear hOf S3 HB hT hnT hfd
    go_wp2_with (first
      | (with_reducible show wpList _ _ _ ({ dst := _, op := Op.store 29 _ _, type := _, pos := _, after := _, guard := _ } :: _) _ _
         refine store_new W3 (vwv tick own (.slice aT n cT)) 29 rfl rfl rfl rfl rfl info29 HVO.out ?_))
    intro W4 hS4 g4
    obtain ⟨vb, hvb⟩ : ∃ b, W3.heap.size = b := ⟨_, rfl⟩
    have S4 := hS4 _ _ HB3.out
    rw [hvb] at S4 ⊢
    have HB : Keep (Sep W W4 (boxA vb (vwv tick own (.slice aT n cT)) 29 :: rowV 33 5 (.slice aT n cT) n (fl snv T) :: boxA b3 [iv p, iv rad, iv sho] 39 :: boxA b2 [.int .u64 tick, .slice ac nc cc, .slice az ns cz, iv nx] 37 :: [])) := ⟨S4⟩
    clear S4 hS4 g4 hvb HB3
    have a1 := (HB.out.boxGet k2m).cellv 1 _ rfl
    have a2 := (HB.out.boxGet k2m).cellv 2 _ rfl
    have v15 := (HB.out.boxGet k0m).cellv 15 _ rfl
    obtain ⟨R, hR⟩ : ∃ R, 65536 * kpZ rad 1024 = R := ⟨_, rfl⟩
    have hRw : IntKind.i64.wrap (kpZ rad 1024 * 65536) = R := by have := kpZ_in rad 1024 (by decide); rw [IntKind.wrap_i64]; omega
    obtain ⟨sh, hsh⟩ : ∃ s, kpZ sho 32 = s := ⟨_, rfl⟩
    have HRS : Keep (65536 * kpZ rad 1024 = R ∧ kpZ sho 32 = sh ∧ 0 ≤ sh ∧ sh ≤ 32) := ⟨⟨hR, hsh, by rw [← hsh]; exact (kpZ_in sho 32 (by decide)).1, by rw [← hsh]; exact (kpZ_in sho 32 (by decide)).2⟩⟩
    have HNS : Keep ((n : Int) ≤ sh) := ⟨by
      obtain ⟨C, S, c1, s1, _, _⟩ := HT.out.o
      have q := (HT.out.told c1 s1).len
      rw [HTN.out, hsh] at q
      have := HRS.out
      omega⟩
    have hns1 : decide ((n : Int) > sh) = false := decide_eq_false (by have := HNS.out; omega)
    have hns2 : ¬ sh < (n : Int) := by have := HNS.out; omega
    go_wp2_with fail
    refine (lkept_c rad 1024 (by decide) W4).mono ?_
    rintro e w5 ⟨rfl, hw⟩
    subst hw
    go_wp2_with fail
    refine (lkept_c sho 32 (by decide) w5).mono ?_
    rintro e w6 ⟨rfl, hw⟩
    subst hw
    rw [hsh]
    clear hR hsh
    have HB0 : Keep (Sep W w6 (rowV 33 5 (.slice none 0 0) 0 (fl snv []) :: boxA vb (vwv tick own (.slice aT n cT)) 29 :: rowV 33 5 (.slice aT n cT) n (fl snv T) :: boxA b3 [iv p, iv rad, iv sho] 39 :: boxA b2 [.int .u64 tick, .slice ac nc cc, .slice az ns cz, iv nx] 37 :: [])) := ⟨HB.out.nilV 33 5⟩
    clear HB
    go_wp2_with fail
    clear a1 a2 v15 hRw hns1 hns2
    as_aux_lemma =>
      go_loopw [11, 12, 13, 14, 15] (fun u11 u12 u13 u14 u15 wr => ∃ (i mA kA : Nat) (aA : Option Addr) (AL : List Sn), i ≤ nc ∧ u12 = iv i ∧ u11 = .slice aA mA kA ∧ Keep (AlC LC p own.x own.y R i AL ∧ AL.length = mA ∧ mA ≤ i ∧ ∀ t ∈ AL, SnOk t) ∧ Keep (Sep W wr (rowV 33 5 (.slice aA mA kA) mA (fl snv AL) :: boxA vb (vwv tick own (.slice aT n cT)) 29 :: rowV 33 5 (.slice aT n cT) n (fl snv T) :: boxA b3 [iv p, iv rad, iv sho] 39 :: boxA b2 [.int .u64 tick, .slice ac nc cc, .slice az ns cz, iv nx] 37 :: []))) (fun _ u12 _ _ _ _ => (nc - intOf u12).toNat)
      case atStart => exact ⟨0, 0, 0, none, [], by omega, rfl, rfl, ⟨⟨AlC.zero _ _ _ _ _, rfl, by omega, fun t ht => by cases ht⟩⟩, HB0⟩
      case round =>
        clear HB0
        obtain ⟨i, mA, kA, aA, AL, hi, rfl, rfl, HA, HB⟩ := hrel
        have s1 := (HB.out.boxGet k4m).cellv 1 _ rfl
        by_cases hlt : i < nc
        · have hlt1 : (i : Int) < (nc : Int) := by omega
          have hi0 : (0 : Int) ≤ (i : Int) := by omega
          have hit : ((i : Nat) : Int).toNat = i := by omega
          have hiw : IntKind.i64.wrap ((i : Int) + 1) = ((i + 1 : Nat) : Int) := by have := HNN.out; have := HLN.out.1; rw [IntKind.wrap_i64]; omega
          obtain ⟨d, hd⟩ : ∃ d, LC[i]? = some d := ⟨_, List.getElem?_eq_getElem (by rw [HLN.out.1]; exact hlt)⟩
          obtain ⟨c, hc⟩ : ∃ c, LC.find? (fun y => y.pl == d.pl) = some c := by
            cases q : LC.find? (fun y => y.pl == d.pl) with
            | none => exact absurd (List.find?_eq_none.1 q d (List.mem_of_getElem? hd)) (by simp)
            | some c => exact ⟨c, rfl⟩
          obtain ⟨gC, oC, eC, qC⟩ := HCR.out.1 (by rw [HLN.out.1]; omega)
          subst eC
          have HPL : Keep (W.cell? ⟨gC, oC + i * 14, none⟩ = some (iv d.pl)) := ⟨by have := qC i d hd 0 (iv d.pl) rfl; simpa using this⟩
          have HFC := Keep.mk hc
          have HD := Keep.mk hd
          have HCK : Keep (CrOk c) := ⟨HS.out.oc c (List.mem_of_find?_eq_some hc)⟩
          have HIN : Keep (i < nc) := ⟨hlt⟩
          clear hd hc qC hlt hi
          go_upto_region 15 with fail
          clear s1
          go_cut [13, 14] (fun s13 s14 wx => ∃ cb, s13 = pt cb ∧ s14 = .bool true ∧ Keep (Sep W wx (boxA cb (crv c) 26 :: rowV 33 5 (.slice aA mA kA) mA (fl snv AL) :: boxA vb (vwv tick own (.slice aT n cT)) 29 :: rowV 33 5 (.slice aT n cT) n (fl snv T) :: boxA b3 [iv p, iv rad, iv sho] 39 :: boxA b2 [.int .u64 tick, .slice (some ⟨gC, oC, none⟩) nc cc, .slice az ns cz, iv nx] 37 :: [])))
          case first  =>
            refine region_Y (S := fun w' => Sep W w' (rowV 33 5 (.slice aA mA kA) mA (fl snv AL) :: boxA vb (vwv tick own (.slice aT n cT)) 29 :: rowV 33 5 (.slice aT n cT) n (fl snv T) :: boxA b3 [iv p, iv rad, iv sho] 39 :: boxA b2 [.int .u64 tick, .slice (some ⟨gC, oC, none⟩) nc cc, .slice az ns cz, iv nx] 37 :: [])) [12] (by kernel_rfl) ?_
            obtain ⟨W0, hW0⟩ : ∃ W_, wr.drew = W_ := ⟨_, rfl⟩
            replace HB := Keep.mk (HB.out.grown (gr_drew _ none))
            rw [hW0] at HB ⊢
            clear hW0
            have hHeld : (fun w' => Sep W w' (rowV 33 5 (.slice aA mA kA) mA (fl snv AL) :: boxA vb (vwv tick own (.slice aT n cT)) 29 :: rowV 33 5 (.slice aT n cT) n (fl snv T) :: boxA b3 [iv p, iv rad, iv sho] 39 :: boxA b2 [.int .u64 tick, .slice (some ⟨gC, oC, none⟩) nc cc, .slice az ns cz, iv nx] 37 :: [])) W0 := HB.out
            refine wpAnyY_take (i := 0) (oi := _) (v := .agg ([.int .u64 tick, .slice (some ⟨gC, oC, none⟩) nc cc, .slice az ns cz, iv nx]).toArray) rfl (by kernel_rfl) (by kernel_rfl) (by kernel_rfl) (by kernel_rfl) (by kernel_rfl) (fun _ _ _ h => h) (yieldsIf_load_mid (by rfl) 37 _ rfl _ _ rfl _ _ (fun w hSw => (hSw.boxGet k4m).range) hds.1 hds.2 info37) (by assumption) ?_
            simp only [Act.put, List.getElem_toArray, List.getElem_cons_zero, List.setIfInBounds_toArray, List.set_cons_zero, List.set_cons_succ]
            refine wpAnyY_pure (i := 1) (oi := _) (v := ?_) rfl (by kernel_rfl) (by kernel_rfl) (by kernel_rfl) (by kernel_rfl) (fun _ _ _ h => h) (Or.inl ⟨by rfl, ?_⟩) ?_
            rotate_left
            · (intro w hSw; go_simp; first | done | (with_reducible rfl))
            simp only [Act.put, List.getElem_toArray, List.getElem_cons_succ, List.getElem_cons_zero, List.setIfInBounds_toArray, List.set_cons_zero, List.set_cons_succ]
            refine wpAnyY_take (i := 2) (oi := _) (v := ?_) rfl (by kernel_rfl) (by kernel_rfl) (by kernel_rfl) (by kernel_rfl) (by kernel_rfl) (fun _ _ _ h => h) (Or.inl ⟨by rfl, ?_⟩) (by assumption) ?_
            rotate_left
            · (intro w hSw; have q := (hSw.boxGet k4m).cellv 1 _ rfl; go_simp; first | done | (with_reducible rfl))
            simp only [Act.put, List.getElem_toArray, List.getElem_cons_succ, List.getElem_cons_zero, List.setIfInBounds_toArray, List.set_cons_zero, List.set_cons_succ]
            refine wpAnyY_pure (i := 3) (oi := _) (v := ?_) rfl (by kernel_rfl) (by kernel_rfl) (by kernel_rfl) (by kernel_rfl) (fun _ _ _ h => h) (Or.inl ⟨by rfl, ?_⟩) ?_
            rotate_left
            · (intro w hSw; go_simp; first | done | (with_reducible rfl))
            simp only [Act.put, List.getElem_toArray, List.getElem_cons_succ, List.getElem_cons_zero, List.setIfInBounds_toArray, List.set_cons_zero, List.set_cons_succ]
            refine wpAnyY_pure (i := 4) (oi := _) (v := ?_) rfl (by kernel_rfl) (by kernel_rfl) (by kernel_rfl) (by kernel_rfl) (fun _ _ _ h => h) (Or.inl ⟨by rfl, ?_⟩) ?_
            rotate_left
            · (intro w hSw; go_simp; first | done | (with_reducible rfl))
            simp only [Act.put, List.getElem_toArray, List.getElem_cons_succ, List.getElem_cons_zero, List.setIfInBounds_toArray, List.set_cons_zero, List.set_cons_succ]
            refine wpAnyY_pure (i := 5) (oi := _) (v := ?_) rfl (by kernel_rfl) (by kernel_rfl) (by kernel_rfl) (by kernel_rfl) (fun _ _ _ h => h) (Or.inl ⟨by rfl, ?_⟩) ?_
            rotate_left
            · (intro w hSw; go_simp; first | done | (with_reducible rfl))
            simp only [Act.put, List.getElem_toArray, List.getElem_cons_succ, List.getElem_cons_zero, List.setIfInBounds_toArray, List.set_cons_zero, List.set_cons_succ]
            refine wpAnyY_take (i := 6) (oi := _) (v := ?_) rfl (by kernel_rfl) (by kernel_rfl) (by kernel_rfl) (by kernel_rfl) (by kernel_rfl) (fun _ _ _ h => h) (Or.inl ⟨by rfl, ?_⟩) (by assumption) ?_
            rotate_left
            · (intro w hSw; have q := hSw.g.cell HPL.out (by simp); go_simp; first | done | (with_reducible rfl))
            simp only [Act.put, List.getElem_toArray, List.getElem_cons_succ, List.getElem_cons_zero, List.setIfInBounds_toArray, List.set_cons_zero, List.set_cons_succ]
            refine wpAnyY_two (i := 7) (j := 11) (by kernel_rfl) rfl rfl (fun K hK => ?_) (fun K hK => ?_)
            · go_simp
              refine (own_c W0 tick nx d.pl (.slice (some ⟨gC, oC, none⟩) nc cc) (.slice az ns cz) LC (HSO.out.1.kept HB.out.g) HNN.out).mono ?_
              rintro e wo1 hOw
              obtain rfl := hOw.yes c HFC.out
              have gO := hOw.g
              replace HB := Keep.mk (HB.out.grown gO)
              refine hK.out _ _ (fun h => h.grown gO) ?_
              clear hK K hOw gO
              refine wpAnyY_pure (i := 8) (oi := _) (v := ?_) rfl (by kernel_rfl) (by kernel_rfl) (by kernel_rfl) (by kernel_rfl) (fun _ _ _ h => h) (Or.inl ⟨by rfl, ?_⟩) ?_
              rotate_left
              · (intro w hSw; go_simp; first | done | (with_reducible rfl))
              simp only [Act.put, List.getElem_toArray, List.getElem_cons_succ, List.getElem_cons_zero, List.setIfInBounds_toArray, List.set_cons_zero, List.set_cons_succ]
              refine wpAnyY_pure (i := 9) (oi := _) (v := ?_) rfl (by kernel_rfl) (by kernel_rfl) (by kernel_rfl) (by kernel_rfl) (fun _ _ _ h => h) (Or.inl ⟨by rfl, ?_⟩) ?_
              rotate_left
              · (intro w hSw; go_simp; first | done | (with_reducible rfl))
              simp only [Act.put, List.getElem_toArray, List.getElem_cons_succ, List.getElem_cons_zero, List.setIfInBounds_toArray, List.set_cons_zero, List.set_cons_succ]
              refine wpAnyY_pure (i := 10) (oi := _) (v := ?_) rfl (by kernel_rfl) (by kernel_rfl) (by kernel_rfl) (by kernel_rfl) (fun _ _ _ h => h) (Or.inl ⟨by rfl, ?_⟩) ?_
              rotate_left
              · (intro w hSw; go_simp; first | done | (with_reducible rfl))
              simp only [Act.put, List.getElem_toArray, List.getElem_cons_succ, List.getElem_cons_zero, List.setIfInBounds_toArray, List.set_cons_zero, List.set_cons_succ]
              refine wpAnyY_one (i := 11) (by kernel_rfl) rfl (fun K hK => ?_)
              have S_ := HB.out.newBox #[iv 0, .string { data := #[] }, iv 0, iv 0, iv 0, iv 0, iv 0, iv 0, iv 0, iv 0, iv 0, iv 0, iv 0, iv 0] 26
              have ga := World.grownBy_alloc wo1 (.cells #[iv 0, .string { data := #[] }, iv 0, iv 0, iv 0, iv 0, iv 0, iv 0, iv 0, iv 0, iv 0, iv 0, iv 0, iv 0] 26) none
              obtain ⟨wa2, hwa⟩ : ∃ W_, wo1.alloc (.cells #[iv 0, .string { data := #[] }, iv 0, iv 0, iv 0, iv 0, iv 0, iv 0, iv 0, iv 0, iv 0, iv 0, iv 0, iv 0] 26) = W_ := ⟨_, rfl⟩
              obtain ⟨cb, hvb⟩ : ∃ b_, wo1.heap.size = b_ := ⟨_, rfl⟩
              rw [hwa, hvb] at S_
              rw [hwa] at ga
              replace HB := Keep.mk S_
              clear S_
              go_simp
              clear hwa hvb
              refine hK.out _ _ (fun h => h.grown ga) ?_
              clear hK K ga
              refine wpAnyY_late (i := 12) (by kernel_rfl) rfl (by kernel_rfl) (fun K hK => ?_)
              rw [if_pos (show Region.wanted _ _ = true from rfl)]
              refine wp_store_mid 26 _ _ rfl cb 0 (crv c).toArray rfl rfl ((HB.out.boxGet k0m).there 0 14 (Nat.le_refl _)) info26 (all_oneCell_toArray (crv_one c)) ?_
              have S_ := HB.out.boxTurn ((HB.out.boxGet k0m).setCells (crv c) 0) (gr_sets _ _ _ _)
              replace HB := Keep.mk S_
              clear S_
              refine hK.out _ _ ?_
              clear hK K
              change Keep (Sep W (World.setCells wa2 cb 0 (crv c)) _) at HB
              show wpAnyY _ _ _ _ _ _ _ _ _ (World.setCells wa2 cb 0 (crv c))
              generalize World.setCells wa2 cb 0 (crv c) = ws3 at HB ⊢
              simp only [Act.put, List.getElem_toArray, List.getElem_cons_succ, List.getElem_cons_zero]
              refine wpAnyY_one (i := 13) (by kernel_rfl) rfl (fun K hK => ?_)
              go_simp
              refine hK.out _ _ (fun h => h) ?_
              clear hK K
              refine wpAnyY_done (by kernel_rfl) ?_ _
              clear hHeld
              go_wp2_with fail
              go_meet
              exact ⟨cb, rfl, rfl, HB⟩
            · have S_ := HB.out.newBox #[iv 0, .string { data := #[] }, iv 0, iv 0, iv 0, iv 0, iv 0, iv 0, iv 0, iv 0, iv 0, iv 0, iv 0, iv 0] 26
              have ga := World.grownBy_alloc W0 (.cells #[iv 0, .string { data := #[] }, iv 0, iv 0, iv 0, iv 0, iv 0, iv 0, iv 0, iv 0, iv 0, iv 0, iv 0, iv 0] 26) none
              obtain ⟨wa5, hwa⟩ : ∃ W_, W0.alloc (.cells #[iv 0, .string { data := #[] }, iv 0, iv 0, iv 0, iv 0, iv 0, iv 0, iv 0, iv 0, iv 0, iv 0, iv 0, iv 0] 26) = W_ := ⟨_, rfl⟩
              obtain ⟨cb, hvb⟩ : ∃ b_, W0.heap.size = b_ := ⟨_, rfl⟩
              rw [hwa, hvb] at S_
              rw [hwa] at ga
              replace HB := Keep.mk S_
              clear S_
              go_simp
              clear hwa hvb
              refine hK.out _ _ (fun h => h.grown ga) ?_
              clear hK K ga
              refine wpAnyY_one (i := 7) (by kernel_rfl) rfl (fun K hK => ?_)
              go_simp
              refine (own_c wa5 tick nx d.pl (.slice (some ⟨gC, oC, none⟩) nc cc) (.slice az ns cz) LC (HSO.out.1.kept HB.out.g) HNN.out).mono ?_
              rintro e wo6 hOw
              obtain rfl := hOw.yes c HFC.out
              have gO := hOw.g
              replace HB := Keep.mk (HB.out.grown gO)
              refine hK.out _ _ (fun h => h.grown gO) ?_
              clear hK K hOw gO
              refine wpAnyY_pure (i := 8) (oi := _) (v := ?_) rfl (by kernel_rfl) (by kernel_rfl) (by kernel_rfl) (by kernel_rfl) (fun _ _ _ h => h) (Or.inl ⟨by rfl, ?_⟩) ?_
              rotate_left
              · (intro w hSw; go_simp; first | done | (with_reducible rfl))
              simp only [Act.put, List.getElem_toArray, List.getElem_cons_succ, List.getElem_cons_zero, List.setIfInBounds_toArray, List.set_cons_zero, List.set_cons_succ]
              refine wpAnyY_pure (i := 9) (oi := _) (v := ?_) rfl (by kernel_rfl) (by kernel_rfl) (by kernel_rfl) (by kernel_rfl) (fun _ _ _ h => h) (Or.inl ⟨by rfl, ?_⟩) ?_
              rotate_left
              · (intro w hSw; go_simp; first | done | (with_reducible rfl))
              simp only [Act.put, List.getElem_toArray, List.getElem_cons_succ, List.getElem_cons_zero, List.setIfInBounds_toArray, List.set_cons_zero, List.set_cons_succ]
              refine wpAnyY_pure (i := 10) (oi := _) (v := ?_) rfl (by kernel_rfl) (by kernel_rfl) (by kernel_rfl) (by kernel_rfl) (fun _ _ _ h => h) (Or.inl ⟨by rfl, ?_⟩) ?_
              rotate_left
              · (intro w hSw; go_simp; first | done | (with_reducible rfl))
              simp only [Act.put, List.getElem_toArray, List.getElem_cons_succ, List.getElem_cons_zero, List.setIfInBounds_toArray, List.set_cons_zero, List.set_cons_succ]
              refine wpAnyY_late (i := 12) (by kernel_rfl) rfl (by kernel_rfl) (fun K hK => ?_)
              rw [if_pos (show Region.wanted _ _ = true from rfl)]
              refine wp_store_mid 26 _ _ rfl cb 0 (crv c).toArray rfl rfl ((HB.out.boxGet k0m).there 0 14 (Nat.le_refl _)) info26 (all_oneCell_toArray (crv_one c)) ?_
              have S_ := HB.out.boxTurn ((HB.out.boxGet k0m).setCells (crv c) 0) (gr_sets _ _ _ _)
              replace HB := Keep.mk S_
              clear S_
              refine hK.out _ _ ?_
              clear hK K
              change Keep (Sep W (World.setCells wo6 cb 0 (crv c)) _) at HB
              show wpAnyY _ _ _ _ _ _ _ _ _ (World.setCells wo6 cb 0 (crv c))
              generalize World.setCells wo6 cb 0 (crv c) = ws7 at HB ⊢
              simp only [Act.put, List.getElem_toArray, List.getElem_cons_succ, List.getElem_cons_zero]
              refine wpAnyY_one (i := 13) (by kernel_rfl) rfl (fun K hK => ?_)
              go_simp
              refine hK.out _ _ (fun h => h) ?_
              clear hK K
              refine wpAnyY_done (by kernel_rfl) ?_ _
              clear hHeld
              go_wp2_with fail
              go_meet
              exact ⟨cb, rfl, rfl, HB⟩
          case rest =>
          clear HB
          obtain ⟨cb, rfl, rfl, HB⟩ := hcut
          rename World => W9
          have c0 := (HB.out.boxGet k0m).cellv 0 _ rfl
          have c2 := (HB.out.boxGet k0m).cellv 2 _ rfl
          have c3 := (HB.out.boxGet k0m).cellv 3 _ rfl
          have c6 := (HB.out.boxGet k0m).cellv 6 _ rfl
          have HBD := Keep.mk (built33 c.pl c.x c.y c.hd)
          have HXN := Keep.mk (snv_one (carS c))
          go_wp2_with (first
            | (with_reducible show wpList _ _ _ ({ dst := some 85, op := Op.build 33 _, type := _, pos := _, after := _, guard := _ } :: _) _ _
               refine wpList_build rfl 33 _ rfl #[iv 1, iv c.pl, iv c.x, iv c.y, iv c.hd] ((congrArg (Tryz.prog.built 33) (by first | (simp only [List.map_toArray, List.map_cons, List.map_nil, Act.eval]; done) | (simp only [List.map_toArray, List.map_cons, List.map_nil, Act.eval]; with_reducible rfl) | (simp only [List.map_toArray, List.map_cons, List.map_nil, Act.eval]; rfl))).trans HBD.out) ?_
               simp only [Act.put, List.setIfInBounds_toArray, List.set_cons_zero, List.set_cons_succ])
            | (with_reducible show wpList _ _ _ ({ dst := _, op := Op.store 33 _ _, type := _, pos := _, after := _, guard := _ } :: _) _ _
               refine store_new W9 (snv (carS c)) 33 rfl rfl rfl rfl rfl info33 HXN.out ?_))
          intro W10 hS10 g10
          obtain ⟨xb, hxb⟩ : ∃ b, W9.heap.size = b := ⟨_, rfl⟩
          have S10 := hS10 _ _ HB.out
          rw [hxb] at S10 ⊢
          replace HB := Keep.mk S10
          clear S10 hS10 g10 hxb c0 c2 c3 c6 HBD HXN
          have c0 := (HB.out.boxGet k1m).cellv 0 _ rfl
          have c2 := (HB.out.boxGet k1m).cellv 2 _ rfl
          have c3 := (HB.out.boxGet k1m).cellv 3 _ rfl
          have c11 := (HB.out.boxGet k1m).cellv 11 _ rfl
          have v3 := (HB.out.boxGet k3m).cellv 3 _ rfl
          have v4 := (HB.out.boxGet k3m).cellv 4 _ rfl
          have a0 := (HB.out.boxGet k5m).cellv 0 _ rfl
          by_cases hwa : c.wa ≤ 0
          · have hw1 : decide (c.wa ≤ 0) = true := decide_eq_true hwa
            by_cases hpl : c.pl = p
            · have hp1 : (c.pl == p) = true := by simp [hpl]
              have hp2 : decide (c.pl = p) = true := decide_eq_true hpl
              have hp3 : (c.pl != p) = false := by simp [hpl]
              have HA2 : Keep (AlC LC p own.x own.y R (i + 1) AL ∧ AL.length = mA ∧ mA ≤ i + 1 ∧ ∀ t ∈ AL, SnOk t) := ⟨by
                have q := HA.out.1.step HD.out HFC.out
                rw [if_neg (by simp [seeC, hp2])] at q
                exact ⟨q, HA.out.2.1, by have := HA.out.2.2.1; omega, HA.out.2.2.2⟩⟩
              clear hwa hpl HA
              go_wp2_with fail
              go_roundw
              case rel => exact ⟨i + 1, mA, kA, aA, AL, HIN.out, rfl, rfl, HA2, ⟨Sep.dropM [] [_, _] HB.out⟩⟩
              case measure => simp [intOf]; have := HIN.out; omega
            · have hp1 : (c.pl == p) = false := by simp [hpl]
              have hp2 : decide (c.pl = p) = false := decide_eq_false hpl
              have hp3 : (c.pl != p) = true := by simp [hpl]
              go_wp2_with fail
              refine (within_c own.x own.y c.x c.y R HOC.out.1.x HOC.out.1.y HCK.out.x HCK.out.y W10).mono ?_
              rintro e W11 ⟨rfl, gw⟩
              replace HB := Keep.mk (HB.out.grown gw.g)
              clear gw c0 c2 c3 c11 v3 v4 a0
              cases hnr : wn (d2 own.x own.y c.x c.y) R with
              | false =>
                have HA2 : Keep (AlC LC p own.x own.y R (i + 1) AL ∧ AL.length = mA ∧ mA ≤ i + 1 ∧ ∀ t ∈ AL, SnOk t) := ⟨by
                  have q := HA.out.1.step HD.out HFC.out
                  rw [if_neg (by simp [seeC, nrS, carS, hnr])] at q
                  exact ⟨q, HA.out.2.1, by have := HA.out.2.2.1; omega, HA.out.2.2.2⟩⟩
                clear hwa hpl HA hnr
                go_wp2_with fail
                go_roundw
                case rel => exact ⟨i + 1, mA, kA, aA, AL, HIN.out, rfl, rfl, HA2, ⟨Sep.dropM [] [_, _] HB.out⟩⟩
                case measure => simp [intOf]; have := HIN.out; omega
              | true =>
                have HSE : Keep (seeC p own.x own.y R c = true) := ⟨by simp [seeC, nrS, carS, hnr, hp2, hw1]⟩
                have HRX := Keep.mk ((HB.out.boxGet k0m).range)
                have HLA : Keep (Ls snv 5 W11 (.slice aA mA kA) AL) := ⟨by
                  exact Ls.own snv_len HB.out (by rw [HA.out.2.1]; exact k2m)⟩
                clear hnr hwa hpl
                go_wp2_with (first
                  | (with_reducible show wpList _ _ _ ({ dst := some 107, op := Op.load 33 _, type := _, pos := _, after := _, guard := _ } :: _) _ _
                     refine load_g rfl 33 _ rfl _ _ rfl (snv (carS c)) _ HRX.out hdu.1 hdu.2 info33 ?_))
                have HRX0 := HRX
                clear HRX
                refine (has_c W11 (.slice aA mA kA) AL (carS c) HLA.out (by rw [HA.out.2.1]; have := HA.out.2.2.1; have := HIN.out; have := HNN.out; have := HLN.out.1; omega)).mono ?_
                rintro e W12 ⟨rfl, gh⟩
                replace HB := Keep.mk (HB.out.grown gh)
                clear gh HLA HRX0
                by_cases hin : carS c ∈ AL
                · have HA2 : Keep (AlC LC p own.x own.y R (i + 1) AL ∧ AL.length = mA ∧ mA ≤ i + 1 ∧ ∀ t ∈ AL, SnOk t) := ⟨by
                    have q := HA.out.1.step HD.out HFC.out
                    rw [if_neg (by simp [hin])] at q
                    exact ⟨q, HA.out.2.1, by have := HA.out.2.2.1; omega, HA.out.2.2.2⟩⟩
                  rw [decide_eq_true hin]
                  clear HA hin
                  go_wp2_with fail
                  go_roundw
                  case rel => exact ⟨i + 1, mA, kA, aA, AL, HIN.out, rfl, rfl, HA2, ⟨Sep.dropM [] [_, _] HB.out⟩⟩
                  case measure => simp [intOf]; have := HIN.out; omega
                · rw [decide_eq_false hin]
                  have HRX := Keep.mk ((HB.out.boxGet k0m).range)
                  obtain ⟨g9, c9, W13, ap, S9⟩ := Sep.appN (L := AL) (carS c) (v := .slice aA mA kA) (by rw [HA.out.2.1]; exact Sep.dropM [] [_, _] HB.out) (by rw [HA.out.2.1]; have := HA.out.2.2.1; have := HIN.out; have := HNB.out; have := HLN.out.1; omega)
                  rw [HA.out.2.1] at ap S9
                  have AP : Keep ((Builtin.append_ #[27, 27] 27 #[.slice aA mA kA, sl W12.heap.size 1 1]).run Tryz.prog (W12.alloc (.cells (snv (carS c)).toArray 33)) = .ok (sl g9 (mA + 1) c9) W13) := ⟨ap⟩
                  have HG := Keep.mk (bslN (carS c))
                  have HA2 : Keep (AlC LC p own.x own.y R (i + 1) (AL ++ [carS c]) ∧ (AL ++ [carS c]).length = mA + 1 ∧ mA + 1 ≤ i + 1 ∧ ∀ t ∈ AL ++ [carS c], SnOk t) := ⟨by
                    have q := HA.out.1.step HD.out HFC.out
                    rw [if_pos ⟨HSE.out, hin⟩] at q
                    refine ⟨q, by rw [List.length_append, HA.out.2.1]; rfl, by have := HA.out.2.2.1; omega, fun t ht => ?_⟩
                    rcases List.mem_append.1 ht with k | k
                    · exact HA.out.2.2.2 t k
                    · rw [List.mem_singleton] at k
                      subst k
                      exact carS_ok HCK.out⟩
                  rw [HA2.out.2.1] at S9
                  replace HB := Keep.mk S9
                  clear HA hin ap S9
                  go_wp2_with (first
                    | (with_reducible show wpList _ _ _ ({ dst := some 112, op := Op.load 33 _, type := _, pos := _, after := _, guard := _ } :: _) _ _
                       refine wpList_load_mid rfl 33 _ rfl _ _ rfl (snv (carS c)) _ HRX.out hdu.1 hdu.2 info33 ?_)
                    | (with_reducible show wpList _ _ _ ({ dst := some 113, op := Op.buildSlice 27 _ _, type := _, pos := _, after := _, guard := _ } :: _) _ _
                       refine wpList_bs_run rfl (.tmp 112) 27 rfl _ rfl (HG.out _) ?_)
                    | (with_reducible show wpList _ _ _ ({ dst := some 114, op := Op.call { callee := Callee.builtin Builtin.append, args := _, argTypes := _ }, type := _, pos := _, after := _, guard := _ } :: _) _ _
                       refine wpList_append_run _ rfl (.tmp 111) (.tmp 113) 27 rfl _ _ rfl rfl AP.out ?_))
                  go_roundw
                  case rel => exact ⟨i + 1, mA + 1, c9, some ⟨g9, 0, none⟩, AL ++ [carS c], HIN.out, rfl, rfl, HA2, HB⟩
                  case measure => simp [intOf]; have := HIN.out; omega
          · have hw1 : decide (c.wa ≤ 0) = false := decide_eq_false hwa
            have HA2 : Keep (AlC LC p own.x own.y R (i + 1) AL ∧ AL.length = mA ∧ mA ≤ i + 1 ∧ ∀ t ∈ AL, SnOk t) := ⟨by
              have q := HA.out.1.step HD.out HFC.out
              rw [if_neg (by simp [seeC, hw1])] at q
              exact ⟨q, HA.out.2.1, by have := HA.out.2.2.1; omega, HA.out.2.2.2⟩⟩
            clear hwa HA
            go_wp2_with fail
            go_roundw
            case rel => exact ⟨i + 1, mA, kA, aA, AL, HIN.out, rfl, rfl, HA2, ⟨Sep.dropM [] [_, _] HB.out⟩⟩
            case measure => simp [intOf]; have := HIN.out; omega
        · have hlt1 : ¬ (i : Int) < (nc : Int) := by omega
          have hin : nc = i := by omega
          subst hin
          have HA0 : Keep (AlC LC p own.x own.y R LC.length AL ∧ AL.length = mA ∧ mA ≤ LC.length ∧ ∀ t ∈ AL, SnOk t) := ⟨by
            have := HA.out
            rw [HLN.out.1]
            exact this⟩
          clear HA hlt hi
          go_wp2_with fail
          clear s1 hlt1
          as_aux_lemma =>
            go_loopw [11, 16, 17, 18, 19] (fun u11 u16 u17 u18 u19 wr => ∃ (i m kB : Nat) (aB : Option Addr) (A : List Sn), i ≤ ns ∧ u16 = iv i ∧ u11 = .slice aB m kB ∧ Keep (AlS LS own.x own.y R i AL A ∧ A.length = m ∧ m ≤ LC.length + i ∧ ∀ t ∈ A, SnOk t) ∧ Keep (Sep W wr (rowV 33 5 (.slice aB m kB) m (fl snv A) :: boxA vb (vwv tick own (.slice aT n cT)) 29 :: rowV 33 5 (.slice aT n cT) n (fl snv T) :: boxA b3 [iv p, iv rad, iv sho] 39 :: boxA b2 [.int .u64 tick, .slice ac nc cc, .slice az ns cz, iv nx] 37 :: []))) (fun _ u16 _ _ _ _ => (ns - intOf u16).toNat)
            case atStart => exact ⟨0, mA, kA, aA, AL, by omega, rfl, rfl, ⟨⟨AlS.zero _ _ _ _ _, HA0.out.2.1, by have := HA0.out.2.2.1; omega, HA0.out.2.2.2⟩⟩, HB⟩
            case round =>
              clear HB
              obtain ⟨i, m, kB, aB, A, hi, rfl, rfl, HA, HB⟩ := hrel
              have s2 := (HB.out.boxGet k4m).cellv 2 _ rfl
              by_cases hlt : i < ns
              · have hlt1 : (i : Int) < (ns : Int) := by omega
                have hi0 : (0 : Int) ≤ (i : Int) := by omega
                have hit : ((i : Nat) : Int).toNat = i := by omega
                have hiw : IntKind.i64.wrap ((i : Int) + 1) = ((i + 1 : Nat) : Int) := by have := HNB.out; have := HLN.out.2; rw [IntKind.wrap_i64]; omega
                obtain ⟨s, hs⟩ : ∃ s, LS[i]? = some s := ⟨_, List.getElem?_eq_getElem (by rw [HLN.out.2]; exact hlt)⟩
                obtain ⟨gS, oS, eS, qS⟩ := HCR.out.2 (by rw [HLN.out.2]; omega)
                subst eS
                have HSI : Keep (∀ k d, LS[k]? = some d → W.cell? ⟨gS, oS + k * 7, none⟩ = some (iv d.id)) := ⟨fun k d hd => by have := qS k d hd 0 (iv d.id) rfl; simpa using this⟩
                have HSX : Keep (W.cell? ⟨gS, oS + i * 7 + 2, none⟩ = some (iv s.x)) := ⟨qS i s hs 2 (iv s.x) rfl⟩
                have HSY : Keep (W.cell? ⟨gS, oS + i * 7 + 3, none⟩ = some (iv s.y)) := ⟨qS i s hs 3 (iv s.y) rfl⟩
                have HSD := Keep.mk hs
                have HSK : Keep (ShOk s) := ⟨HS.out.os s (List.mem_of_getElem? hs)⟩
                have HIN : Keep (i < ns) := ⟨hlt⟩
                have HBD := Keep.mk (built33s s.id s.x s.y)
                clear hs qS hlt hi
                go_wp2_with fail
                clear s2
                refine region_Y (S := fun w' => Sep W w' (rowV 33 5 (.slice aB m kB) m (fl snv A) :: boxA vb (vwv tick own (.slice aT n cT)) 29 :: rowV 33 5 (.slice aT n cT) n (fl snv T) :: boxA b3 [iv p, iv rad, iv sho] 39 :: boxA b2 [.int .u64 tick, .slice ac nc cc, .slice (some ⟨gS, oS, none⟩) ns cz, iv nx] 37 :: [])) [14] (by kernel_rfl) ?_
                obtain ⟨W20, hW20⟩ : ∃ W_, wr.drew = W_ := ⟨_, rfl⟩
                replace HB := Keep.mk (HB.out.grown (gr_drew _ none))
                rw [hW20] at HB ⊢
                clear hW20
                have hHeld : (fun w' => Sep W w' (rowV 33 5 (.slice aB m kB) m (fl snv A) :: boxA vb (vwv tick own (.slice aT n cT)) 29 :: rowV 33 5 (.slice aT n cT) n (fl snv T) :: boxA b3 [iv p, iv rad, iv sho] 39 :: boxA b2 [.int .u64 tick, .slice ac nc cc, .slice (some ⟨gS, oS, none⟩) ns cz, iv nx] 37 :: [])) W20 := HB.out
                refine wpAnyY_pure (i := 0) (oi := _) (v := ?_) rfl (by kernel_rfl) (by kernel_rfl) (by kernel_rfl) (by kernel_rfl) (fun _ _ _ h => h) (Or.inl ⟨by rfl, ?_⟩) ?_
                rotate_left
                · (intro w hSw; go_simp; first | done | (with_reducible rfl))
                simp only [Act.put, List.getElem_toArray, List.getElem_cons_zero, List.setIfInBounds_toArray, List.set_cons_zero, List.set_cons_succ]
                refine wpAnyY_take (i := 1) (oi := _) (v := ?_) rfl (by kernel_rfl) (by kernel_rfl) (by kernel_rfl) (by kernel_rfl) (by kernel_rfl) (fun _ _ _ h => h) (Or.inl ⟨by rfl, ?_⟩) (by assumption) ?_
                rotate_left
                · (intro w hSw; have q := (hSw.boxGet k4m).cellv 2 _ rfl; go_simp; first | done | (with_reducible rfl))
                simp only [Act.put, List.getElem_toArray, List.getElem_cons_succ, List.getElem_cons_zero, List.setIfInBounds_toArray, List.set_cons_zero, List.set_cons_succ]
                refine wpAnyY_pure (i := 2) (oi := _) (v := ?_) rfl (by kernel_rfl) (by kernel_rfl) (by kernel_rfl) (by kernel_rfl) (fun _ _ _ h => h) (Or.inl ⟨by rfl, ?_⟩) ?_
                rotate_left
                · (intro w hSw; go_simp; first | done | (with_reducible rfl))
                simp only [Act.put, List.getElem_toArray, List.getElem_cons_succ, List.getElem_cons_zero, List.setIfInBounds_toArray, List.set_cons_zero, List.set_cons_succ]
                refine wpAnyY_pure (i := 3) (oi := _) (v := ?_) rfl (by kernel_rfl) (by kernel_rfl) (by kernel_rfl) (by kernel_rfl) (fun _ _ _ h => h) (Or.inl ⟨by rfl, ?_⟩) ?_
                rotate_left
                · (intro w hSw; go_simp; first | done | (with_reducible rfl))
                simp only [Act.put, List.getElem_toArray, List.getElem_cons_succ, List.getElem_cons_zero, List.setIfInBounds_toArray, List.set_cons_zero, List.set_cons_succ]
                refine wpAnyY_pure (i := 4) (oi := _) (v := ?_) rfl (by kernel_rfl) (by kernel_rfl) (by kernel_rfl) (by kernel_rfl) (fun _ _ _ h => h) (Or.inl ⟨by rfl, ?_⟩) ?_
                rotate_left
                · (intro w hSw; go_simp; first | done | (with_reducible rfl))
                simp only [Act.put, List.getElem_toArray, List.getElem_cons_succ, List.getElem_cons_zero, List.setIfInBounds_toArray, List.set_cons_zero, List.set_cons_succ]
                refine wpAnyY_take (i := 5) (oi := _) (v := ?_) rfl (by kernel_rfl) (by kernel_rfl) (by kernel_rfl) (by kernel_rfl) (by kernel_rfl) (fun _ _ _ h => h) (Or.inl ⟨by rfl, ?_⟩) (by assumption) ?_
                rotate_left
                · (intro w hSw; have q := hSw.g.cell (HSI.out i s HSD.out) (by simp); go_simp; first | done | (with_reducible rfl))
                simp only [Act.put, List.getElem_toArray, List.getElem_cons_succ, List.getElem_cons_zero, List.setIfInBounds_toArray, List.set_cons_zero, List.set_cons_succ]
                refine wpAnyY_pure (i := 6) (oi := _) (v := ?_) rfl (by kernel_rfl) (by kernel_rfl) (by kernel_rfl) (by kernel_rfl) (fun _ _ _ h => h) (Or.inl ⟨by rfl, ?_⟩) ?_
                rotate_left
                · (intro w hSw; go_simp; first | done | (with_reducible rfl))
                simp only [Act.put, List.getElem_toArray, List.getElem_cons_succ, List.getElem_cons_zero, List.setIfInBounds_toArray, List.set_cons_zero, List.set_cons_succ]
                refine wpAnyY_take (i := 7) (oi := _) (v := ?_) rfl (by kernel_rfl) (by kernel_rfl) (by kernel_rfl) (by kernel_rfl) (by kernel_rfl) (fun _ _ _ h => h) (Or.inl ⟨by rfl, ?_⟩) (by assumption) ?_
                rotate_left
                · (intro w hSw; have q := (hSw.boxGet k4m).cellv 2 _ rfl; go_simp; first | done | (with_reducible rfl))
                simp only [Act.put, List.getElem_toArray, List.getElem_cons_succ, List.getElem_cons_zero, List.setIfInBounds_toArray, List.set_cons_zero, List.set_cons_succ]
                refine wpAnyY_pure (i := 8) (oi := _) (v := ?_) rfl (by kernel_rfl) (by kernel_rfl) (by kernel_rfl) (by kernel_rfl) (fun _ _ _ h => h) (Or.inl ⟨by rfl, ?_⟩) ?_
                rotate_left
                · (intro w hSw; go_simp; first | done | (with_reducible rfl))
                simp only [Act.put, List.getElem_toArray, List.getElem_cons_succ, List.getElem_cons_zero, List.setIfInBounds_toArray, List.set_cons_zero, List.set_cons_succ]
                refine wpAnyY_pure (i := 9) (oi := _) (v := ?_) rfl (by kernel_rfl) (by kernel_rfl) (by kernel_rfl) (by kernel_rfl) (fun _ _ _ h => h) (Or.inl ⟨by rfl, ?_⟩) ?_
                rotate_left
                · (intro w hSw; go_simp; first | done | (with_reducible rfl))
                simp only [Act.put, List.getElem_toArray, List.getElem_cons_succ, List.getElem_cons_zero, List.setIfInBounds_toArray, List.set_cons_zero, List.set_cons_succ]
                refine wpAnyY_pure (i := 10) (oi := _) (v := ?_) rfl (by kernel_rfl) (by kernel_rfl) (by kernel_rfl) (by kernel_rfl) (fun _ _ _ h => h) (Or.inl ⟨by rfl, ?_⟩) ?_
                rotate_left
                · (intro w hSw; go_simp; first | done | (with_reducible rfl))
                simp only [Act.put, List.getElem_toArray, List.getElem_cons_succ, List.getElem_cons_zero, List.setIfInBounds_toArray, List.set_cons_zero, List.set_cons_succ]
                refine wpAnyY_take (i := 11) (oi := _) (v := ?_) rfl (by kernel_rfl) (by kernel_rfl) (by kernel_rfl) (by kernel_rfl) (by kernel_rfl) (fun _ _ _ h => h) (Or.inl ⟨by rfl, ?_⟩) (by assumption) ?_
                rotate_left
                · (intro w hSw; have q := hSw.g.cell HSX.out (by simp); have q2 := hSw.g.cell HSY.out (by simp); go_simp; first | done | (with_reducible rfl))
                simp only [Act.put, List.getElem_toArray, List.getElem_cons_succ, List.getElem_cons_zero, List.setIfInBounds_toArray, List.set_cons_zero, List.set_cons_succ]
                refine wpAnyY_pure (i := 12) (oi := _) (v := .agg (snv (shoS s)).toArray) rfl (by kernel_rfl) (by kernel_rfl) (by kernel_rfl) (by kernel_rfl) (fun _ _ _ h => h) (yieldsIf_build (by rfl) 33 _ rfl _ ?_) ?_
                · refine (congrArg (Tryz.prog.built 33) ?_).trans HBD.out
                  simp only [List.map_toArray, List.map_cons, List.map_nil]
                  rfl
                simp only [Act.put, List.getElem_toArray, List.getElem_cons_succ, List.getElem_cons_zero, List.setIfInBounds_toArray, List.set_cons_zero, List.set_cons_succ]
                refine wpAnyY_one (i := 13) (by kernel_rfl) rfl (fun K hK => ?_)
                have S_ := HB.out.newBox #[iv 0, iv 0, iv 0, iv 0, iv 0] 33
                have ga := World.grownBy_alloc W20 (.cells #[iv 0, iv 0, iv 0, iv 0, iv 0] 33) none
                obtain ⟨wa, hwa⟩ : ∃ W_, W20.alloc (.cells #[iv 0, iv 0, iv 0, iv 0, iv 0] 33) = W_ := ⟨_, rfl⟩
                obtain ⟨xb, hxb⟩ : ∃ b_, W20.heap.size = b_ := ⟨_, rfl⟩
                rw [hwa, hxb] at S_
                rw [hwa] at ga
                replace HB := Keep.mk S_
                clear S_
                go_simp
                clear hwa hxb
                refine hK.out _ _ (fun h => h.grown ga) ?_
                clear hK K ga
                refine wpAnyY_late (i := 14) (by kernel_rfl) rfl (by kernel_rfl) (fun K hK => ?_)
                rw [if_pos (show Region.wanted _ _ = true from rfl)]
                refine wp_store_mid 33 _ _ rfl xb 0 (snv (shoS s)).toArray rfl rfl ((HB.out.boxGet k0m).there 0 5 (Nat.le_refl _)) info33 (all_oneCell_toArray (snv_one (shoS s))) ?_
                have S_ := HB.out.boxTurn ((HB.out.boxGet k0m).setCells (snv (shoS s)) 0) (gr_sets _ _ _ _)
                replace HB := Keep.mk S_
                clear S_
                refine hK.out _ _ ?_
                clear hK K
                change Keep (Sep W (World.setCells wa xb 0 (snv (shoS s))) _) at HB
                show wpAnyY _ _ _ _ _ _ _ _ _ (World.setCells wa xb 0 (snv (shoS s)))
                generalize World.setCells wa xb 0 (snv (shoS s)) = W21 at HB ⊢
                simp only [Act.put, List.getElem_toArray, List.getElem_cons_succ, List.getElem_cons_zero]
                refine wpAnyY_done (by kernel_rfl) ?_ _
                clear hHeld
                go_wp2_with fail
                clear HBD HSX HSY
                as_aux_lemma =>
                  go_loopw [18, 19] (fun u18 u19 wq => ∃ (k : Nat) (fb : Bool), k ≤ i ∧ u18 = .bool fb ∧ u19 = iv k ∧ Keep (fb = true ↔ ∀ d ∈ LS.take k, d.id ≠ s.id) ∧ Keep (Sep W wq (boxA xb (snv (shoS s)) 33 :: rowV 33 5 (.slice aB m kB) m (fl snv A) :: boxA vb (vwv tick own (.slice aT n cT)) 29 :: rowV 33 5 (.slice aT n cT) n (fl snv T) :: boxA b3 [iv p, iv rad, iv sho] 39 :: boxA b2 [.int .u64 tick, .slice ac nc cc, .slice (some ⟨gS, oS, none⟩) ns cz, iv nx] 37 :: []))) (fun _ u19 _ => (i - intOf u19).toNat)
                  case atStart => exact ⟨0, true, by omega, rfl, rfl, ⟨by simp⟩, HB⟩
                  case round =>
                    clear HB
                    obtain ⟨k, fb, hk, rfl, rfl, HF, HB⟩ := hrel
                    by_cases hlk : k < i
                    · have hlk1 : (k : Int) < (i : Int) := by omega
                      have hk0 : (0 : Int) ≤ (k : Int) := by omega
                      have hkt : ((k : Nat) : Int).toNat = k := by omega
                      have hkw : IntKind.i64.wrap ((k : Int) + 1) = ((k + 1 : Nat) : Int) := by have := HNB.out; have := HLN.out.2; have := HIN.out; rw [IntKind.wrap_i64]; omega
                      have hks : (k : Int) < (ns : Int) := by have := HIN.out; omega
                      obtain ⟨d, hd⟩ : ∃ d, LS[k]? = some d := ⟨_, List.getElem?_eq_getElem (by rw [HLN.out.2]; have := HIN.out; omega)⟩
                      have HSE : Keep (W.cell? ⟨gS, oS + k * 7, none⟩ = some (iv d.id)) := ⟨HSI.out k d hd⟩
                      have HTK : Keep (LS.take (k + 1) = LS.take k ++ [d]) := ⟨by rw [List.take_add_one, hd]; rfl⟩
                      have HKI : Keep (k < i) := ⟨hlk⟩
                      clear hd hlk hk
                      cases fb with
                      | false =>
                        have HF2 : Keep (false = true ↔ ∀ d ∈ LS.take (k + 1), d.id ≠ s.id) := ⟨⟨fun h => Bool.noConfusion h, fun h => HF.out.2 (fun d' hd' => h d' (by rw [HTK.out]; exact List.mem_append_left _ hd'))⟩⟩
                        go_wp2_with fail
                        refine region_Y (S := fun w' => Sep W w' (boxA xb (snv (shoS s)) 33 :: rowV 33 5 (.slice aB m kB) m (fl snv A) :: boxA vb (vwv tick own (.slice aT n cT)) 29 :: rowV 33 5 (.slice aT n cT) n (fl snv T) :: boxA b3 [iv p, iv rad, iv sho] 39 :: boxA b2 [.int .u64 tick, .slice ac nc cc, .slice (some ⟨gS, oS, none⟩) ns cz, iv nx] 37 :: [])) [] (by kernel_rfl) ?_
                        obtain ⟨W22, hW22⟩ : ∃ W_, wr.drew = W_ := ⟨_, rfl⟩
                        replace HB := Keep.mk (HB.out.grown (gr_drew _ none))
                        rw [hW22] at HB ⊢
                        clear hW22
                        have hHeld : (fun w' => Sep W w' (boxA xb (snv (shoS s)) 33 :: rowV 33 5 (.slice aB m kB) m (fl snv A) :: boxA vb (vwv tick own (.slice aT n cT)) 29 :: rowV 33 5 (.slice aT n cT) n (fl snv T) :: boxA b3 [iv p, iv rad, iv sho] 39 :: boxA b2 [.int .u64 tick, .slice ac nc cc, .slice (some ⟨gS, oS, none⟩) ns cz, iv nx] 37 :: [])) W22 := HB.out
                        refine wpAnyY_pure (i := 0) (oi := _) (v := ?_) rfl (by kernel_rfl) (by kernel_rfl) (by kernel_rfl) (by kernel_rfl) (fun _ _ _ h => h) (Or.inl ⟨by rfl, ?_⟩) ?_
                        rotate_left
                        · (intro w hSw; go_simp; first | done | (with_reducible rfl))
                        simp only [Act.put, List.getElem_toArray, List.getElem_cons_zero, List.setIfInBounds_toArray, List.set_cons_zero, List.set_cons_succ]
                        refine wpAnyY_pure (i := 1) (oi := _) (v := ?_) rfl (by kernel_rfl) (by kernel_rfl) (by kernel_rfl) (by kernel_rfl) (fun _ _ _ h => h) (Or.inl ⟨by rfl, ?_⟩) ?_
                        rotate_left
                        · (intro w hSw; go_simp; first | done | (with_reducible rfl))
                        simp only [Act.put, List.getElem_toArray, List.getElem_cons_succ, List.getElem_cons_zero, List.setIfInBounds_toArray, List.set_cons_zero, List.set_cons_succ]
                        refine wpAnyY_pure (i := 2) (oi := _) (v := undef) rfl (by kernel_rfl) (by kernel_rfl) (by kernel_rfl) (by kernel_rfl) (fun _ _ _ h => h) (Or.inr ⟨by rfl, rfl⟩) ?_
                        simp only [Act.put, List.getElem_toArray, List.getElem_cons_succ, List.getElem_cons_zero, List.setIfInBounds_toArray, List.set_cons_zero, List.set_cons_succ]
                        refine wpAnyY_pure (i := 3) (oi := _) (v := undef) rfl (by kernel_rfl) (by kernel_rfl) (by kernel_rfl) (by kernel_rfl) (fun _ _ _ h => h) (Or.inr ⟨by rfl, rfl⟩) ?_
                        simp only [Act.put, List.getElem_toArray, List.getElem_cons_succ, List.getElem_cons_zero, List.setIfInBounds_toArray, List.set_cons_zero, List.set_cons_succ]
                        refine wpAnyY_pure (i := 4) (oi := _) (v := undef) rfl (by kernel_rfl) (by kernel_rfl) (by kernel_rfl) (by kernel_rfl) (fun _ _ _ h => h) (Or.inr ⟨by rfl, rfl⟩) ?_
                        simp only [Act.put, List.getElem_toArray, List.getElem_cons_succ, List.getElem_cons_zero, List.setIfInBounds_toArray, List.set_cons_zero, List.set_cons_succ]
                        refine wpAnyY_pure (i := 5) (oi := _) (v := undef) rfl (by kernel_rfl) (by kernel_rfl) (by kernel_rfl) (by kernel_rfl) (fun _ _ _ h => h) (Or.inr ⟨by rfl, rfl⟩) ?_
                        simp only [Act.put, List.getElem_toArray, List.getElem_cons_succ, List.getElem_cons_zero, List.setIfInBounds_toArray, List.set_cons_zero, List.set_cons_succ]
                        refine wpAnyY_pure (i := 6) (oi := _) (v := undef) rfl (by kernel_rfl) (by kernel_rfl) (by kernel_rfl) (by kernel_rfl) (fun _ _ _ h => h) (Or.inr ⟨by rfl, rfl⟩) ?_
                        simp only [Act.put, List.getElem_toArray, List.getElem_cons_succ, List.getElem_cons_zero, List.setIfInBounds_toArray, List.set_cons_zero, List.set_cons_succ]
                        refine wpAnyY_pure (i := 7) (oi := _) (v := undef) rfl (by kernel_rfl) (by kernel_rfl) (by kernel_rfl) (by kernel_rfl) (fun _ _ _ h => h) (Or.inr ⟨by rfl, rfl⟩) ?_
                        simp only [Act.put, List.getElem_toArray, List.getElem_cons_succ, List.getElem_cons_zero, List.setIfInBounds_toArray, List.set_cons_zero, List.set_cons_succ]
                        refine wpAnyY_pure (i := 8) (oi := _) (v := undef) rfl (by kernel_rfl) (by kernel_rfl) (by kernel_rfl) (by kernel_rfl) (fun _ _ _ h => h) (Or.inr ⟨by rfl, rfl⟩) ?_
                        simp only [Act.put, List.getElem_toArray, List.getElem_cons_succ, List.getElem_cons_zero, List.setIfInBounds_toArray, List.set_cons_zero, List.set_cons_succ]
                        refine wpAnyY_pure (i := 9) (oi := _) (v := undef) rfl (by kernel_rfl) (by kernel_rfl) (by kernel_rfl) (by kernel_rfl) (fun _ _ _ h => h) (Or.inr ⟨by rfl, rfl⟩) ?_
                        simp only [Act.put, List.getElem_toArray, List.getElem_cons_succ, List.getElem_cons_zero, List.setIfInBounds_toArray, List.set_cons_zero, List.set_cons_succ]
                        refine wpAnyY_pure (i := 10) (oi := _) (v := undef) rfl (by kernel_rfl) (by kernel_rfl) (by kernel_rfl) (by kernel_rfl) (fun _ _ _ h => h) (Or.inr ⟨by rfl, rfl⟩) ?_
                        simp only [Act.put, List.getElem_toArray, List.getElem_cons_succ, List.getElem_cons_zero, List.setIfInBounds_toArray, List.set_cons_zero, List.set_cons_succ]
                        refine wpAnyY_pure (i := 11) (oi := _) (v := ?_) rfl (by kernel_rfl) (by kernel_rfl) (by kernel_rfl) (by kernel_rfl) (fun _ _ _ h => h) (Or.inl ⟨by rfl, ?_⟩) ?_
                        rotate_left
                        · (intro w hSw; go_simp; first | done | (with_reducible rfl))
                        simp only [Act.put, List.getElem_toArray, List.getElem_cons_succ, List.getElem_cons_zero, List.setIfInBounds_toArray, List.set_cons_zero, List.set_cons_succ]
                        refine wpAnyY_one (i := 12) (by kernel_rfl) rfl (fun K hK => ?_)
                        go_simp
                        refine hK.out _ _ (fun h => h) ?_
                        clear hK K
                        refine wpAnyY_done (by kernel_rfl) ?_ _
                        clear hHeld
                        go_wp2_with fail
                        go_roundw
                        case rel => exact ⟨k + 1, false, HKI.out, rfl, rfl, HF2, HB⟩
                        case measure => simp [intOf]; have := HKI.out; omega
                      | true =>
                        by_cases hid : d.id = s.id
                        · have he1 : (d.id == s.id) = true := by simp [hid]
                          have he2 : decide (d.id = s.id) = true := decide_eq_true hid
                          have he3 : (d.id != s.id) = false := by simp [hid]
                          have HF2 : Keep (false = true ↔ ∀ d ∈ LS.take (k + 1), d.id ≠ s.id) := ⟨⟨fun h => Bool.noConfusion h, fun h => absurd hid (h d (by rw [HTK.out]; simp))⟩⟩
                          clear hid
                          go_wp2_with fail
                          refine region_Y (S := fun w' => Sep W w' (boxA xb (snv (shoS s)) 33 :: rowV 33 5 (.slice aB m kB) m (fl snv A) :: boxA vb (vwv tick own (.slice aT n cT)) 29 :: rowV 33 5 (.slice aT n cT) n (fl snv T) :: boxA b3 [iv p, iv rad, iv sho] 39 :: boxA b2 [.int .u64 tick, .slice ac nc cc, .slice (some ⟨gS, oS, none⟩) ns cz, iv nx] 37 :: [])) [] (by kernel_rfl) ?_
                          obtain ⟨W22, hW22⟩ : ∃ W_, wr.drew = W_ := ⟨_, rfl⟩
                          replace HB := Keep.mk (HB.out.grown (gr_drew _ none))
                          rw [hW22] at HB ⊢
                          clear hW22
                          have hHeld : (fun w' => Sep W w' (boxA xb (snv (shoS s)) 33 :: rowV 33 5 (.slice aB m kB) m (fl snv A) :: boxA vb (vwv tick own (.slice aT n cT)) 29 :: rowV 33 5 (.slice aT n cT) n (fl snv T) :: boxA b3 [iv p, iv rad, iv sho] 39 :: boxA b2 [.int .u64 tick, .slice ac nc cc, .slice (some ⟨gS, oS, none⟩) ns cz, iv nx] 37 :: [])) W22 := HB.out
                          refine wpAnyY_pure (i := 0) (oi := _) (v := ?_) rfl (by kernel_rfl) (by kernel_rfl) (by kernel_rfl) (by kernel_rfl) (fun _ _ _ h => h) (Or.inl ⟨by rfl, ?_⟩) ?_
                          rotate_left
                          · (intro w hSw; go_simp; first | done | (with_reducible rfl))
                          simp only [Act.put, List.getElem_toArray, List.getElem_cons_zero, List.setIfInBounds_toArray, List.set_cons_zero, List.set_cons_succ]
                          refine wpAnyY_pure (i := 1) (oi := _) (v := ?_) rfl (by kernel_rfl) (by kernel_rfl) (by kernel_rfl) (by kernel_rfl) (fun _ _ _ h => h) (Or.inl ⟨by rfl, ?_⟩) ?_
                          rotate_left
                          · (intro w hSw; go_simp; first | done | (with_reducible rfl))
                          simp only [Act.put, List.getElem_toArray, List.getElem_cons_succ, List.getElem_cons_zero, List.setIfInBounds_toArray, List.set_cons_zero, List.set_cons_succ]
                          refine wpAnyY_pure (i := 2) (oi := _) (v := ?_) rfl (by kernel_rfl) (by kernel_rfl) (by kernel_rfl) (by kernel_rfl) (fun _ _ _ h => h) (Or.inl ⟨by rfl, ?_⟩) ?_
                          rotate_left
                          · (intro w hSw; go_simp; first | done | (with_reducible rfl))
                          simp only [Act.put, List.getElem_toArray, List.getElem_cons_succ, List.getElem_cons_zero, List.setIfInBounds_toArray, List.set_cons_zero, List.set_cons_succ]
                          refine wpAnyY_take (i := 3) (oi := _) (v := ?_) rfl (by kernel_rfl) (by kernel_rfl) (by kernel_rfl) (by kernel_rfl) (by kernel_rfl) (fun _ _ _ h => h) (Or.inl ⟨by rfl, ?_⟩) (by assumption) ?_
                          rotate_left
                          · (intro w hSw; have q := (hSw.boxGet k5m).cellv 2 _ rfl; go_simp; first | done | (with_reducible rfl))
                          simp only [Act.put, List.getElem_toArray, List.getElem_cons_succ, List.getElem_cons_zero, List.setIfInBounds_toArray, List.set_cons_zero, List.set_cons_succ]
                          refine wpAnyY_pure (i := 4) (oi := _) (v := ?_) rfl (by kernel_rfl) (by kernel_rfl) (by kernel_rfl) (by kernel_rfl) (fun _ _ _ h => h) (Or.inl ⟨by rfl, ?_⟩) ?_
                          rotate_left
                          · (intro w hSw; go_simp; first | done | (with_reducible rfl))
                          simp only [Act.put, List.getElem_toArray, List.getElem_cons_succ, List.getElem_cons_zero, List.setIfInBounds_toArray, List.set_cons_zero, List.set_cons_succ]
                          refine wpAnyY_pure (i := 5) (oi := _) (v := ?_) rfl (by kernel_rfl) (by kernel_rfl) (by kernel_rfl) (by kernel_rfl) (fun _ _ _ h => h) (Or.inl ⟨by rfl, ?_⟩) ?_
                          rotate_left
                          · (intro w hSw; go_simp; first | done | (with_reducible rfl))
                          simp only [Act.put, List.getElem_toArray, List.getElem_cons_succ, List.getElem_cons_zero, List.setIfInBounds_toArray, List.set_cons_zero, List.set_cons_succ]
                          refine wpAnyY_pure (i := 6) (oi := _) (v := ?_) rfl (by kernel_rfl) (by kernel_rfl) (by kernel_rfl) (by kernel_rfl) (fun _ _ _ h => h) (Or.inl ⟨by rfl, ?_⟩) ?_
                          rotate_left
                          · (intro w hSw; go_simp; first | done | (with_reducible rfl))
                          simp only [Act.put, List.getElem_toArray, List.getElem_cons_succ, List.getElem_cons_zero, List.setIfInBounds_toArray, List.set_cons_zero, List.set_cons_succ]
                          refine wpAnyY_take (i := 7) (oi := _) (v := ?_) rfl (by kernel_rfl) (by kernel_rfl) (by kernel_rfl) (by kernel_rfl) (by kernel_rfl) (fun _ _ _ h => h) (Or.inl ⟨by rfl, ?_⟩) (by assumption) ?_
                          rotate_left
                          · (intro w hSw; have q := hSw.g.cell HSE.out (by simp); go_simp; first | done | (with_reducible rfl))
                          simp only [Act.put, List.getElem_toArray, List.getElem_cons_succ, List.getElem_cons_zero, List.setIfInBounds_toArray, List.set_cons_zero, List.set_cons_succ]
                          refine wpAnyY_pure (i := 8) (oi := _) (v := ?_) rfl (by kernel_rfl) (by kernel_rfl) (by kernel_rfl) (by kernel_rfl) (fun _ _ _ h => h) (Or.inl ⟨by rfl, ?_⟩) ?_
                          rotate_left
                          · (intro w hSw; go_simp; first | done | (with_reducible rfl))
                          simp only [Act.put, List.getElem_toArray, List.getElem_cons_succ, List.getElem_cons_zero, List.setIfInBounds_toArray, List.set_cons_zero, List.set_cons_succ]
                          refine wpAnyY_take (i := 9) (oi := _) (v := ?_) rfl (by kernel_rfl) (by kernel_rfl) (by kernel_rfl) (by kernel_rfl) (by kernel_rfl) (fun _ _ _ h => h) (Or.inl ⟨by rfl, ?_⟩) (by assumption) ?_
                          rotate_left
                          · (intro w hSw; have q := (hSw.boxGet k0m).cellv 1 _ rfl; go_simp; first | done | (with_reducible rfl))
                          simp only [Act.put, List.getElem_toArray, List.getElem_cons_succ, List.getElem_cons_zero, List.setIfInBounds_toArray, List.set_cons_zero, List.set_cons_succ]
                          refine wpAnyY_take (i := 10) (oi := _) (v := .bool false) rfl (by kernel_rfl) (by kernel_rfl) (by kernel_rfl) (by kernel_rfl) (by kernel_rfl) (fun _ _ _ h => h) (Or.inl ⟨by rfl, ?_⟩) (by assumption) ?_
                          · (intro w hSw; have q1 := he1; have q2 := he2; have q3 := he3; have q4 : (d.id == (shoS s).id) = true := he1; have q5 : decide (d.id = (shoS s).id) = true := he2; have q6 : (d.id != (shoS s).id) = false := he3; have q7 : decide (d.id ≠ (shoS s).id) = false := decide_eq_false (fun h => h (of_decide_eq_true he2)); go_simp; first | done | rfl | (simp; done) | (simp [q4, q5, q6, q7]; done) | (simp_all; done) | trace "STUCK")
                          simp only [Act.put, List.getElem_toArray, List.getElem_cons_succ, List.getElem_cons_zero, List.setIfInBounds_toArray, List.set_cons_zero, List.set_cons_succ]
                          refine wpAnyY_pure (i := 11) (oi := _) (v := ?_) rfl (by kernel_rfl) (by kernel_rfl) (by kernel_rfl) (by kernel_rfl) (fun _ _ _ h => h) (Or.inl ⟨by rfl, ?_⟩) ?_
                          rotate_left
                          · (intro w hSw; go_simp; first | done | (with_reducible rfl))
                          simp only [Act.put, List.getElem_toArray, List.getElem_cons_succ, List.getElem_cons_zero, List.setIfInBounds_toArray, List.set_cons_zero, List.set_cons_succ]
                          refine wpAnyY_one (i := 12) (by kernel_rfl) rfl (fun K hK => ?_)
                          go_simp
                          refine hK.out _ _ (fun h => h) ?_
                          clear hK K
                          refine wpAnyY_done (by kernel_rfl) ?_ _
                          clear hHeld
                          go_wp2_with fail
                          go_roundw
                          case rel => exact ⟨k + 1, false, HKI.out, rfl, rfl, HF2, HB⟩
                          case measure => simp [intOf]; have := HKI.out; omega
                        · have he1 : (d.id == s.id) = false := by simp [hid]
                          have he2 : decide (d.id = s.id) = false := decide_eq_false hid
                          have he3 : (d.id != s.id) = true := by simp [hid]
                          have HF2 : Keep (∀ d ∈ LS.take (k + 1), d.id ≠ s.id) := ⟨fun d' hd' => by
                            rw [HTK.out] at hd'
                            rcases List.mem_append.1 hd' with q | q
                            · exact HF.out.1 rfl d' q
                            · rw [List.mem_singleton] at q; subst q; exact hid⟩
                          clear hid
                          go_wp2_with fail
                          refine region_Y (S := fun w' => Sep W w' (boxA xb (snv (shoS s)) 33 :: rowV 33 5 (.slice aB m kB) m (fl snv A) :: boxA vb (vwv tick own (.slice aT n cT)) 29 :: rowV 33 5 (.slice aT n cT) n (fl snv T) :: boxA b3 [iv p, iv rad, iv sho] 39 :: boxA b2 [.int .u64 tick, .slice ac nc cc, .slice (some ⟨gS, oS, none⟩) ns cz, iv nx] 37 :: [])) [] (by kernel_rfl) ?_
                          obtain ⟨W22, hW22⟩ : ∃ W_, wr.drew = W_ := ⟨_, rfl⟩
                          replace HB := Keep.mk (HB.out.grown (gr_drew _ none))
                          rw [hW22] at HB ⊢
                          clear hW22
                          have hHeld : (fun w' => Sep W w' (boxA xb (snv (shoS s)) 33 :: rowV 33 5 (.slice aB m kB) m (fl snv A) :: boxA vb (vwv tick own (.slice aT n cT)) 29 :: rowV 33 5 (.slice aT n cT) n (fl snv T) :: boxA b3 [iv p, iv rad, iv sho] 39 :: boxA b2 [.int .u64 tick, .slice ac nc cc, .slice (some ⟨gS, oS, none⟩) ns cz, iv nx] 37 :: [])) W22 := HB.out
                          refine wpAnyY_pure (i := 0) (oi := _) (v := ?_) rfl (by kernel_rfl) (by kernel_rfl) (by kernel_rfl) (by kernel_rfl) (fun _ _ _ h => h) (Or.inl ⟨by rfl, ?_⟩) ?_
                          rotate_left
                          · (intro w hSw; go_simp; first | done | (with_reducible rfl))
                          simp only [Act.put, List.getElem_toArray, List.getElem_cons_zero, List.setIfInBounds_toArray, List.set_cons_zero, List.set_cons_succ]
                          refine wpAnyY_pure (i := 1) (oi := _) (v := ?_) rfl (by kernel_rfl) (by kernel_rfl) (by kernel_rfl) (by kernel_rfl) (fun _ _ _ h => h) (Or.inl ⟨by rfl, ?_⟩) ?_
                          rotate_left
                          · (intro w hSw; go_simp; first | done | (with_reducible rfl))
                          simp only [Act.put, List.getElem_toArray, List.getElem_cons_succ, List.getElem_cons_zero, List.setIfInBounds_toArray, List.set_cons_zero, List.set_cons_succ]
                          refine wpAnyY_pure (i := 2) (oi := _) (v := ?_) rfl (by kernel_rfl) (by kernel_rfl) (by kernel_rfl) (by kernel_rfl) (fun _ _ _ h => h) (Or.inl ⟨by rfl, ?_⟩) ?_
                          rotate_left
                          · (intro w hSw; go_simp; first | done | (with_reducible rfl))
                          simp only [Act.put, List.getElem_toArray, List.getElem_cons_succ, List.getElem_cons_zero, List.setIfInBounds_toArray, List.set_cons_zero, List.set_cons_succ]
                          refine wpAnyY_take (i := 3) (oi := _) (v := ?_) rfl (by kernel_rfl) (by kernel_rfl) (by kernel_rfl) (by kernel_rfl) (by kernel_rfl) (fun _ _ _ h => h) (Or.inl ⟨by rfl, ?_⟩) (by assumption) ?_
                          rotate_left
                          · (intro w hSw; have q := (hSw.boxGet k5m).cellv 2 _ rfl; go_simp; first | done | (with_reducible rfl))
                          simp only [Act.put, List.getElem_toArray, List.getElem_cons_succ, List.getElem_cons_zero, List.setIfInBounds_toArray, List.set_cons_zero, List.set_cons_succ]
                          refine wpAnyY_pure (i := 4) (oi := _) (v := ?_) rfl (by kernel_rfl) (by kernel_rfl) (by kernel_rfl) (by kernel_rfl) (fun _ _ _ h => h) (Or.inl ⟨by rfl, ?_⟩) ?_
                          rotate_left
                          · (intro w hSw; go_simp; first | done | (with_reducible rfl))
                          simp only [Act.put, List.getElem_toArray, List.getElem_cons_succ, List.getElem_cons_zero, List.setIfInBounds_toArray, List.set_cons_zero, List.set_cons_succ]
                          refine wpAnyY_pure (i := 5) (oi := _) (v := ?_) rfl (by kernel_rfl) (by kernel_rfl) (by kernel_rfl) (by kernel_rfl) (fun _ _ _ h => h) (Or.inl ⟨by rfl, ?_⟩) ?_
                          rotate_left
                          · (intro w hSw; go_simp; first | done | (with_reducible rfl))
                          simp only [Act.put, List.getElem_toArray, List.getElem_cons_succ, List.getElem_cons_zero, List.setIfInBounds_toArray, List.set_cons_zero, List.set_cons_succ]
                          refine wpAnyY_pure (i := 6) (oi := _) (v := ?_) rfl (by kernel_rfl) (by kernel_rfl) (by kernel_rfl) (by kernel_rfl) (fun _ _ _ h => h) (Or.inl ⟨by rfl, ?_⟩) ?_
                          rotate_left
                          · (intro w hSw; go_simp; first | done | (with_reducible rfl))
                          simp only [Act.put, List.getElem_toArray, List.getElem_cons_succ, List.getElem_cons_zero, List.setIfInBounds_toArray, List.set_cons_zero, List.set_cons_succ]
                          refine wpAnyY_take (i := 7) (oi := _) (v := ?_) rfl (by kernel_rfl) (by kernel_rfl) (by kernel_rfl) (by kernel_rfl) (by kernel_rfl) (fun _ _ _ h => h) (Or.inl ⟨by rfl, ?_⟩) (by assumption) ?_
                          rotate_left
                          · (intro w hSw; have q := hSw.g.cell HSE.out (by simp); go_simp; first | done | (with_reducible rfl))
                          simp only [Act.put, List.getElem_toArray, List.getElem_cons_succ, List.getElem_cons_zero, List.setIfInBounds_toArray, List.set_cons_zero, List.set_cons_succ]
                          refine wpAnyY_pure (i := 8) (oi := _) (v := ?_) rfl (by kernel_rfl) (by kernel_rfl) (by kernel_rfl) (by kernel_rfl) (fun _ _ _ h => h) (Or.inl ⟨by rfl, ?_⟩) ?_
                          rotate_left
                          · (intro w hSw; go_simp; first | done | (with_reducible rfl))
                          simp only [Act.put, List.getElem_toArray, List.getElem_cons_succ, List.getElem_cons_zero, List.setIfInBounds_toArray, List.set_cons_zero, List.set_cons_succ]
                          refine wpAnyY_take (i := 9) (oi := _) (v := ?_) rfl (by kernel_rfl) (by kernel_rfl) (by kernel_rfl) (by kernel_rfl) (by kernel_rfl) (fun _ _ _ h => h) (Or.inl ⟨by rfl, ?_⟩) (by assumption) ?_
                          rotate_left
                          · (intro w hSw; have q := (hSw.boxGet k0m).cellv 1 _ rfl; go_simp; first | done | (with_reducible rfl))
                          simp only [Act.put, List.getElem_toArray, List.getElem_cons_succ, List.getElem_cons_zero, List.setIfInBounds_toArray, List.set_cons_zero, List.set_cons_succ]
                          refine wpAnyY_take (i := 10) (oi := _) (v := .bool true) rfl (by kernel_rfl) (by kernel_rfl) (by kernel_rfl) (by kernel_rfl) (by kernel_rfl) (fun _ _ _ h => h) (Or.inl ⟨by rfl, ?_⟩) (by assumption) ?_
                          · (intro w hSw; have q1 := he1; have q2 := he2; have q3 := he3; have q4 : (d.id == (shoS s).id) = false := he1; have q5 : decide (d.id = (shoS s).id) = false := he2; have q6 : (d.id != (shoS s).id) = true := he3; have q7 : decide (d.id ≠ (shoS s).id) = true := decide_eq_true (of_decide_eq_false he2); go_simp; first | done | rfl | (simp; done) | (simp [q4, q5, q6, q7]; done) | (simp_all; done) | trace "STUCK")
                          simp only [Act.put, List.getElem_toArray, List.getElem_cons_succ, List.getElem_cons_zero, List.setIfInBounds_toArray, List.set_cons_zero, List.set_cons_succ]
                          refine wpAnyY_pure (i := 11) (oi := _) (v := ?_) rfl (by kernel_rfl) (by kernel_rfl) (by kernel_rfl) (by kernel_rfl) (fun _ _ _ h => h) (Or.inl ⟨by rfl, ?_⟩) ?_
                          rotate_left
                          · (intro w hSw; go_simp; first | done | (with_reducible rfl))
                          simp only [Act.put, List.getElem_toArray, List.getElem_cons_succ, List.getElem_cons_zero, List.setIfInBounds_toArray, List.set_cons_zero, List.set_cons_succ]
                          refine wpAnyY_one (i := 12) (by kernel_rfl) rfl (fun K hK => ?_)
                          go_simp
                          refine hK.out _ _ (fun h => h) ?_
                          clear hK K
                          refine wpAnyY_done (by kernel_rfl) ?_ _
                          clear hHeld
                          go_wp2_with fail
                          go_roundw
                          case rel => exact ⟨k + 1, true, HKI.out, rfl, rfl, ⟨⟨fun _ => HF2.out, fun _ => rfl⟩⟩, HB⟩
                          case measure => simp [intOf]; have := HKI.out; omega
                    · have hlk1 : ¬ (k : Int) < (i : Int) := by omega
                      have hki : i = k := by omega
                      subst hki
                      clear hlk hk
                      have v3 := (HB.out.boxGet k2m).cellv 3 _ rfl
                      have v4 := (HB.out.boxGet k2m).cellv 4 _ rfl
                      have x2 := (HB.out.boxGet k0m).cellv 2 _ rfl
                      have x3 := (HB.out.boxGet k0m).cellv 3 _ rfl
                      cases fb with
                      | false =>
                        have HA2 : Keep (AlS LS own.x own.y R (i + 1) AL A ∧ A.length = m ∧ m ≤ LC.length + (i + 1) ∧ ∀ t ∈ A, SnOk t) := ⟨by
                          have q := HA.out.1.step HSD.out false HF.out
                          rw [if_neg (by simp)] at q
                          exact ⟨q, HA.out.2.1, by have := HA.out.2.2.1; omega, HA.out.2.2.2⟩⟩
                        go_wp2_with fail
                        go_roundw
                        case rel => exact ⟨i + 1, m, kB, aB, A, HIN.out, rfl, rfl, HA2, ⟨Sep.dropM [] [_] HB.out⟩⟩
                        case measure => simp [intOf]; have := HIN.out; omega
                      | true =>
                        have HFT : Keep (∀ d ∈ LS.take i, d.id ≠ s.id) := ⟨HF.out.1 rfl⟩
                        clear HF
                        go_wp2_with fail
                        refine (within_c own.x own.y s.x s.y R HOC.out.1.x HOC.out.1.y HSK.out.x HSK.out.y _).mono ?_
                        rintro e W23 ⟨rfl, gw⟩
                        replace HB := Keep.mk (HB.out.grown gw.g)
                        clear gw v3 v4 x2 x3
                        cases hnr : wn (d2 own.x own.y s.x s.y) R with
                        | false =>
                          have HA2 : Keep (AlS LS own.x own.y R (i + 1) AL A ∧ A.length = m ∧ m ≤ LC.length + (i + 1) ∧ ∀ t ∈ A, SnOk t) := ⟨by
                            have q := HA.out.1.step HSD.out true ⟨fun _ => HFT.out, fun _ => rfl⟩
                            rw [if_neg (by simp [nrS, shoS, hnr])] at q
                            exact ⟨q, HA.out.2.1, by have := HA.out.2.2.1; omega, HA.out.2.2.2⟩⟩
                          clear hnr HA
                          go_wp2_with fail
                          go_roundw
                          case rel => exact ⟨i + 1, m, kB, aB, A, HIN.out, rfl, rfl, HA2, ⟨Sep.dropM [] [_] HB.out⟩⟩
                          case measure => simp [intOf]; have := HIN.out; omega
                        | true =>
                          have HRX := Keep.mk ((HB.out.boxGet k0m).range)
                          obtain ⟨g9, c9, W24, ap, S9⟩ := Sep.appN (L := A) (shoS s) (v := .slice aB m kB) (by rw [HA.out.2.1]; exact Sep.dropM [] [_] HB.out) (by rw [HA.out.2.1]; have := HA.out.2.2.1; have := HIN.out; have := HNB.out; have := HLN.out.2; omega)
                          rw [HA.out.2.1] at ap S9
                          have AP : Keep ((Builtin.append_ #[27, 27] 27 #[.slice aB m kB, sl W23.heap.size 1 1]).run Tryz.prog (W23.alloc (.cells (snv (shoS s)).toArray 33)) = .ok (sl g9 (m + 1) c9) W24) := ⟨ap⟩
                          have HG := Keep.mk (bslN (shoS s))
                          have HA2 : Keep (AlS LS own.x own.y R (i + 1) AL (A ++ [shoS s]) ∧ (A ++ [shoS s]).length = m + 1 ∧ m + 1 ≤ LC.length + (i + 1) ∧ ∀ t ∈ A ++ [shoS s], SnOk t) := ⟨by
                            have q := HA.out.1.step HSD.out true ⟨fun _ => HFT.out, fun _ => rfl⟩
                            rw [if_pos ⟨rfl, by simpa [nrS, shoS] using hnr⟩] at q
                            refine ⟨q, by rw [List.length_append, HA.out.2.1]; rfl, by have := HA.out.2.2.1; omega, fun t ht => ?_⟩
                            rcases List.mem_append.1 ht with k | k
                            · exact HA.out.2.2.2 t k
                            · rw [List.mem_singleton] at k
                              subst k
                              exact shoS_ok HSK.out⟩
                          rw [HA2.out.2.1] at S9
                          replace HB := Keep.mk S9
                          clear HA ap S9 hnr
                          go_wp2_with (first
                            | (with_reducible show wpList _ _ _ ({ dst := some 163, op := Op.load 33 _, type := _, pos := _, after := _, guard := _ } :: _) _ _
                               refine wpList_load_mid rfl 33 _ rfl _ _ rfl (snv (shoS s)) _ HRX.out hdu.1 hdu.2 info33 ?_)
                            | (with_reducible show wpList _ _ _ ({ dst := some 164, op := Op.buildSlice 27 _ _, type := _, pos := _, after := _, guard := _ } :: _) _ _
                               refine wpList_bs_run rfl (.tmp 163) 27 rfl _ rfl (HG.out _) ?_)
                            | (with_reducible show wpList _ _ _ ({ dst := some 165, op := Op.call { callee := Callee.builtin Builtin.append, args := _, argTypes := _ }, type := _, pos := _, after := _, guard := _ } :: _) _ _
                               refine wpList_append_run _ rfl (.tmp 162) (.tmp 164) 27 rfl _ _ rfl rfl AP.out ?_))
                          go_roundw
                          case rel => exact ⟨i + 1, m + 1, c9, some ⟨g9, 0, none⟩, A ++ [shoS s], HIN.out, rfl, rfl, HA2, HB⟩
                          case measure => simp [intOf]; have := HIN.out; omega
              · have hlt1 : ¬ (i : Int) < (ns : Int) := by omega
                have hin : ns = i := by omega
                subst hin
                have HA1 : Keep (AlS LS own.x own.y R LS.length AL A ∧ A.length = m ∧ m ≤ LC.length + LS.length ∧ ∀ t ∈ A, SnOk t) := ⟨by
                  have := HA.out
                  rw [HLN.out.2]
                  exact this⟩
                clear HA hlt hi
                have HTL : Keep (T.Pairwise tld ∧ (∀ t ∈ T, t ∈ A) ∧ ∀ u ∈ A, u ∉ T → (n : Int) = sh ∧ farL own.x own.y T ≤ d2 own.x own.y u.x u.y) := ⟨by
                  obtain ⟨C, S, c1, s1, _, _⟩ := HT.out.o
                  have q := HT.out.told c1 s1
                  have nr := all_near c1 s1 HA0.out.1 HA1.out.1
                  rw [HRS.out.1, HRS.out.2.1, HOC.out.2] at q
                  refine ⟨q.srt, fun t ht => (nr t).2 (q.mem t ht), fun u hu hn => ?_⟩
                  obtain ⟨u1, u2, u3⟩ := (nr u).1 hu
                  obtain ⟨k1, k2⟩ := q.far u1 u2 u3 hn
                  have := HTN.out
                  have := HRS.out.2.2
                  exact ⟨by omega, k2⟩⟩
                have HTO : Keep (∀ t ∈ T, SnOk t) := ⟨HT.out.ok HS.out.oc HS.out.os⟩
                go_wp2_with fail
                clear s2 hlt1
                as_aux_lemma =>
                  go_loopw [20, 21, 22, 23] (fun u20 u21 u22 u23 wr => ∃ i : Nat, i ≤ n ∧ u21 = iv i ∧ u20 = .int .i64 (farL own.x own.y (T.take i)) ∧ Keep (Sep W wr (rowV 33 5 (.slice aB m kB) m (fl snv A) :: boxA vb (vwv tick own (.slice aT n cT)) 29 :: rowV 33 5 (.slice aT n cT) n (fl snv T) :: boxA b3 [iv p, iv rad, iv sho] 39 :: boxA b2 [.int .u64 tick, .slice ac nc cc, .slice az ns cz, iv nx] 37 :: []))) (fun _ u21 _ _ _ => (n - intOf u21).toNat)
                  case atStart => exact ⟨0, by omega, rfl, rfl, HB⟩
                  case round =>
                    clear HB
                    obtain ⟨i, hi, rfl, rfl, HB⟩ := hrel
                    have v15 := (HB.out.boxGet k1m).cellv 15 _ rfl
                    by_cases hlt : i < n
                    · have hlt1 : (i : Int) < (n : Int) := by omega
                      have hi0 : (0 : Int) ≤ (i : Int) := by omega
                      have hit : ((i : Nat) : Int).toNat = i := by omega
                      have hiw : IntKind.i64.wrap ((i : Int) + 1) = ((i + 1 : Nat) : Int) := by have := HNS.out; have := HRS.out.2.2; rw [IntKind.wrap_i64]; omega
                      obtain ⟨x, hx⟩ : ∃ x, T[i]? = some x := ⟨_, List.getElem?_eq_getElem (by rw [HTN.out]; exact hlt)⟩
                      obtain ⟨gT, rfl⟩ : ∃ g, aT = some ⟨g, 0, none⟩ := by
                        obtain ⟨g, c', e, _⟩ := own_any (HB.out.rowGet k2m) (by omega)
                        injection e with e1 _ _
                        exact ⟨g, e1⟩
                      have HRW : Keep (wr.rangeAt gT (i * 5) (snv x)) := ⟨fl_range snv_len (HB.out.rowGet k2m) (by omega) i x hx⟩
                      have HXN := Keep.mk (snv_one x)
                      have HX := Keep.mk hx
                      have HXM : Keep (x ∈ T) := ⟨List.mem_of_getElem? hx⟩
                      have HIN : Keep (i < n) := ⟨hlt⟩
                      clear hx hlt hi
                      go_wp2_with (first
                        | (with_reducible show wpList _ _ _ ({ dst := some 177, op := Op.load 33 _, type := _, pos := _, after := _, guard := _ } :: _) _ _
                           refine wpList_load_mid rfl 33 _ rfl _ _ rfl (snv x) _ HRW.out hdu.1 hdu.2 info33 ?_)
                        | (with_reducible show wpList _ _ _ ({ dst := _, op := Op.store 33 _ _, type := _, pos := _, after := _, guard := _ } :: _) _ _
                           refine store_new wr (snv x) 33 rfl rfl rfl rfl rfl info33 HXN.out ?_))
                      intro W30 hS30 g30
                      obtain ⟨xb, hxb⟩ : ∃ b, wr.heap.size = b := ⟨_, rfl⟩
                      have S30 := hS30 _ _ HB.out
                      rw [hxb] at S30 ⊢
                      replace HB := Keep.mk S30
                      clear S30 hS30 g30 hxb HRW HXN v15
                      have HRX := Keep.mk ((HB.out.boxGet k0m).range)
                      go_wp2_with (first
                        | (with_reducible show wpList _ _ _ ({ dst := some 179, op := Op.load 33 _, type := _, pos := _, after := _, guard := _ } :: _) _ _
                           refine wpList_load_mid rfl 33 _ rfl _ _ rfl (snv x) _ HRX.out hdu.1 hdu.2 info33 ?_))
                      refine (has_c W30 (.slice aB m kB) A x (Ls.own snv_len HB.out (by rw [HA1.out.2.1]; exact k1m)) (by rw [HA1.out.2.1]; have := HA1.out.2.2.1; have := HNB.out; omega)).mono ?_
                      rintro e W31 ⟨rfl, gh⟩
                      replace HB := Keep.mk (HB.out.grown gh)
                      rw [decide_eq_true (HTL.out.2.1 x HXM.out)]
                      clear gh HRX
                      by_cases hi1 : (i : Int) > 0
                      · have v15 := (HB.out.boxGet k2m).cellv 15 _ rfl
                        have hg1 : decide ((i : Int) > 0) = true := decide_eq_true hi1
                        have him : IntKind.i64.wrap ((i : Int) - 1) = ((i - 1 : Nat) : Int) := by have := HNS.out; have := HRS.out.2.2; rw [IntKind.wrap_i64]; have := HIN.out; omega
                        have hj0 : (0 : Int) ≤ ((i - 1 : Nat) : Int) := by omega
                        have hjn : ((i - 1 : Nat) : Int) < (n : Int) := by omega
                        have hjt : (((i - 1 : Nat) : Nat) : Int).toNat = i - 1 := by omega
                        obtain ⟨y, hy⟩ : ∃ y, T[i - 1]? = some y := ⟨_, List.getElem?_eq_getElem (by rw [HTN.out]; have := HIN.out; omega)⟩
                        have HRY : Keep (W31.rangeAt gT ((i - 1) * 5) (snv y)) := ⟨fl_range snv_len (HB.out.rowGet k3m) (by omega) (i - 1) y hy⟩
                        have HYN := Keep.mk (snv_one y)
                        have HYX : Keep (tld y x) := ⟨by
                          obtain ⟨l1, e1⟩ := List.getElem?_eq_some_iff.1 hy
                          obtain ⟨l2, e2⟩ := List.getElem?_eq_some_iff.1 HX.out
                          rw [← e1, ← e2]
                          exact List.pairwise_iff_getElem.1 HTL.out.1 (i - 1) i l1 l2 (by omega)⟩
                        clear hy
                        go_wp2_with (first
                          | (with_reducible show wpList _ _ _ ({ dst := some 189, op := Op.load 33 _, type := _, pos := _, after := _, guard := _ } :: _) _ _
                             refine wpList_load_mid rfl 33 _ rfl _ _ rfl (snv y) _ HRY.out hdu.1 hdu.2 info33 ?_)
                          | (with_reducible show wpList _ _ _ ({ dst := _, op := Op.store 33 _ _, type := _, pos := _, after := _, guard := _ } :: _) _ _
                             refine store_new W31 (snv y) 33 rfl rfl rfl rfl rfl info33 HYN.out ?_))
                        intro W32 hS32 g32
                        obtain ⟨yb, hyb⟩ : ∃ b, W31.heap.size = b := ⟨_, rfl⟩
                        have S32 := hS32 _ _ HB.out
                        rw [hyb] at S32 ⊢
                        replace HB := Keep.mk S32
                        clear S32 hS32 g32 hyb HRY HYN v15
                        have y0 := (HB.out.boxGet k0m).cellv 0 _ rfl
                        have y1 := (HB.out.boxGet k0m).cellv 1 _ rfl
                        have z0 := (HB.out.boxGet k1m).cellv 0 _ rfl
                        have z1 := (HB.out.boxGet k1m).cellv 1 _ rfl
                        rcases HYX.out with hk | ⟨hk, hd⟩
                        · have d1 : decide (y.kd > x.kd) = false := decide_eq_false (by omega)
                          have d20 : decide (x.kd < y.kd) = false := decide_eq_false (by omega)
                          have d3 : (y.kd == x.kd) = false := by simp; omega
                          have d4 : decide (y.kd = x.kd) = false := decide_eq_false (by omega)
                          clear hk
                          have v3 := (HB.out.boxGet k3m).cellv 3 _ rfl
                          have v4 := (HB.out.boxGet k3m).cellv 4 _ rfl
                          have x2 := (HB.out.boxGet k1m).cellv 2 _ rfl
                          have x3 := (HB.out.boxGet k1m).cellv 3 _ rfl
                          go_wp2_with fail
                          refine (dist_c own.x own.y x.x x.y HOC.out.1.x HOC.out.1.y (HTO.out x HXM.out).x (HTO.out x HXM.out).y _).mono ?_
                          rintro e W33 ⟨rfl, gw⟩
                          replace HB := Keep.mk (HB.out.grown gw.g)
                          have HFA : Keep (farL own.x own.y (T.take (i + 1)) = max (farL own.x own.y (T.take i)) (d2 own.x own.y x.x x.y)) := ⟨by rw [List.take_add_one, HX.out]; exact farL_app _ _ _ _⟩
                          clear gw v3 v4 x2 x3
                          go_wp2_with fail
                          go_roundw
                          case rel => exact ⟨i + 1, HIN.out, rfl, by rw [HFA.out], ⟨Sep.dropM [] [_, _] HB.out⟩⟩
                          case measure => simp [intOf]; have := HIN.out; omega
                        · have d1 : decide (y.kd > x.kd) = false := decide_eq_false (by omega)
                          have d20 : decide (x.kd < y.kd) = false := decide_eq_false (by omega)
                          have d3 : (y.kd == x.kd) = true := by simp; omega
                          have d4 : decide (y.kd = x.kd) = true := decide_eq_true (by omega)
                          have d5 : decide (y.id ≥ x.id) = false := decide_eq_false (by omega)
                          have d6 : decide (x.id ≤ y.id) = false := decide_eq_false (by omega)
                          clear hk hd
                          have v3 := (HB.out.boxGet k3m).cellv 3 _ rfl
                          have v4 := (HB.out.boxGet k3m).cellv 4 _ rfl
                          have x2 := (HB.out.boxGet k1m).cellv 2 _ rfl
                          have x3 := (HB.out.boxGet k1m).cellv 3 _ rfl
                          go_wp2_with fail
                          refine (dist_c own.x own.y x.x x.y HOC.out.1.x HOC.out.1.y (HTO.out x HXM.out).x (HTO.out x HXM.out).y _).mono ?_
                          rintro e W33 ⟨rfl, gw⟩
                          replace HB := Keep.mk (HB.out.grown gw.g)
                          have HFA : Keep (farL own.x own.y (T.take (i + 1)) = max (farL own.x own.y (T.take i)) (d2 own.x own.y x.x x.y)) := ⟨by rw [List.take_add_one, HX.out]; exact farL_app _ _ _ _⟩
                          clear gw v3 v4 x2 x3
                          go_wp2_with fail
                          go_roundw
                          case rel => exact ⟨i + 1, HIN.out, rfl, by rw [HFA.out], ⟨Sep.dropM [] [_, _] HB.out⟩⟩
                          case measure => simp [intOf]; have := HIN.out; omega
                      · have hg1 : decide ((i : Int) > 0) = false := decide_eq_false hi1
                        have v3 := (HB.out.boxGet k2m).cellv 3 _ rfl
                        have v4 := (HB.out.boxGet k2m).cellv 4 _ rfl
                        have x2 := (HB.out.boxGet k0m).cellv 2 _ rfl
                        have x3 := (HB.out.boxGet k0m).cellv 3 _ rfl
                        go_wp2_with fail
                        refine (dist_c own.x own.y x.x x.y HOC.out.1.x HOC.out.1.y (HTO.out x HXM.out).x (HTO.out x HXM.out).y _).mono ?_
                        rintro e W33 ⟨rfl, gw⟩
                        replace HB := Keep.mk (HB.out.grown gw.g)
                        have HFA : Keep (farL own.x own.y (T.take (i + 1)) = max (farL own.x own.y (T.take i)) (d2 own.x own.y x.x x.y)) := ⟨by rw [List.take_add_one, HX.out]; exact farL_app _ _ _ _⟩
                        clear gw v3 v4 x2 x3
                        go_wp2_with fail
                        go_roundw
                        case rel => exact ⟨i + 1, HIN.out, rfl, by rw [HFA.out], ⟨Sep.dropM [] [_] HB.out⟩⟩
                        case measure => simp [intOf]; have := HIN.out; omega
                    · have hlt1 : ¬ (i : Int) < (n : Int) := by omega
                      have hin : i = n := by omega
                      subst hin
                      have hTT : T.take i = T := List.take_of_length_le (by rw [HTN.out]; omega)
                      rw [hTT]
                      clear hlt hi hTT
                      go_wp2_with fail
                      clear v15 hlt1
                      as_aux_lemma =>
                        go_loopw [24] (fun u24 wr => ∃ j : Nat, j ≤ m ∧ u24 = iv j ∧ Keep (Sep W wr (rowV 33 5 (.slice aB m kB) m (fl snv A) :: boxA vb (vwv tick own (.slice aT i cT)) 29 :: rowV 33 5 (.slice aT i cT) i (fl snv T) :: boxA b3 [iv p, iv rad, iv sho] 39 :: boxA b2 [.int .u64 tick, .slice ac nc cc, .slice az ns cz, iv nx] 37 :: []))) (fun u24 _ => (m - intOf u24).toNat)
                        case atStart => exact ⟨0, by omega, rfl, HB⟩
                        case round =>
                          clear HB
                          obtain ⟨j, hj, rfl, HB⟩ := hrel
                          by_cases hlt : j < m
                          · have hlt1 : (j : Int) < (m : Int) := by omega
                            have hj0 : (0 : Int) ≤ (j : Int) := by omega
                            have hjt : ((j : Nat) : Int).toNat = j := by omega
                            have hjw : IntKind.i64.wrap ((j : Int) + 1) = ((j + 1 : Nat) : Int) := by have := HA1.out.2.2.1; have := HNB.out; rw [IntKind.wrap_i64]; omega
                            obtain ⟨u, hu⟩ : ∃ u, A[j]? = some u := ⟨_, List.getElem?_eq_getElem (by rw [HA1.out.2.1]; exact hlt)⟩
                            obtain ⟨gB, rfl⟩ : ∃ g, aB = some ⟨g, 0, none⟩ := by
                              obtain ⟨g, c', e, _⟩ := own_any (HB.out.rowGet k0m) (by omega)
                              injection e with e1 _ _
                              exact ⟨g, e1⟩
                            have HU := Keep.mk hu
                            have HUM : Keep (u ∈ A) := ⟨List.mem_of_getElem? hu⟩
                            have HIN : Keep (j < m) := ⟨hlt⟩
                            clear hu hlt hj
                            by_cases hut : u ∈ T
                            · go_wp2_with fail
                              refine region_Y (S := fun w' => Sep W w' (rowV 33 5 (.slice (some ⟨gB, 0, none⟩) m kB) m (fl snv A) :: boxA vb (vwv tick own (.slice aT i cT)) 29 :: rowV 33 5 (.slice aT i cT) i (fl snv T) :: boxA b3 [iv p, iv rad, iv sho] 39 :: boxA b2 [.int .u64 tick, .slice ac nc cc, .slice az ns cz, iv nx] 37 :: [])) [] (by kernel_rfl) ?_
                              obtain ⟨W40, hW40⟩ : ∃ W_, wr.drew = W_ := ⟨_, rfl⟩
                              replace HB := Keep.mk (HB.out.grown (gr_drew _ none))
                              rw [hW40] at HB ⊢
                              clear hW40
                              have hHeld : (fun w' => Sep W w' (rowV 33 5 (.slice (some ⟨gB, 0, none⟩) m kB) m (fl snv A) :: boxA vb (vwv tick own (.slice aT i cT)) 29 :: rowV 33 5 (.slice aT i cT) i (fl snv T) :: boxA b3 [iv p, iv rad, iv sho] 39 :: boxA b2 [.int .u64 tick, .slice ac nc cc, .slice az ns cz, iv nx] 37 :: [])) W40 := HB.out
                              refine wpAnyY_pure (i := 0) (oi := _) (v := ?_) rfl (by kernel_rfl) (by kernel_rfl) (by kernel_rfl) (by kernel_rfl) (fun _ _ _ h => h) (Or.inl ⟨by rfl, ?_⟩) ?_
                              rotate_left
                              · (intro w hSw; go_simp; first | done | (with_reducible rfl))
                              simp only [Act.put, List.getElem_toArray, List.getElem_cons_zero, List.setIfInBounds_toArray, List.set_cons_zero, List.set_cons_succ]
                              refine wpAnyY_take (i := 1) (oi := _) (v := ?_) rfl (by kernel_rfl) (by kernel_rfl) (by kernel_rfl) (by kernel_rfl) (by kernel_rfl) (fun _ _ _ h => h) (Or.inl ⟨by rfl, ?_⟩) (by assumption) ?_
                              rotate_left
                              · (intro w hSw; have q := (hSw.boxGet k1m).cellv 15 _ rfl; go_simp; first | done | (with_reducible rfl))
                              simp only [Act.put, List.getElem_toArray, List.getElem_cons_succ, List.getElem_cons_zero, List.setIfInBounds_toArray, List.set_cons_zero, List.set_cons_succ]
                              refine wpAnyY_pure (i := 2) (oi := _) (v := ?_) rfl (by kernel_rfl) (by kernel_rfl) (by kernel_rfl) (by kernel_rfl) (fun _ _ _ h => h) (Or.inl ⟨by rfl, ?_⟩) ?_
                              rotate_left
                              · (intro w hSw; go_simp; first | done | (with_reducible rfl))
                              simp only [Act.put, List.getElem_toArray, List.getElem_cons_succ, List.getElem_cons_zero, List.setIfInBounds_toArray, List.set_cons_zero, List.set_cons_succ]
                              refine wpAnyY_pure (i := 3) (oi := _) (v := ?_) rfl (by kernel_rfl) (by kernel_rfl) (by kernel_rfl) (by kernel_rfl) (fun _ _ _ h => h) (Or.inl ⟨by rfl, ?_⟩) ?_
                              rotate_left
                              · (intro w hSw; go_simp; first | done | (with_reducible rfl))
                              simp only [Act.put, List.getElem_toArray, List.getElem_cons_succ, List.getElem_cons_zero, List.setIfInBounds_toArray, List.set_cons_zero, List.set_cons_succ]
                              refine wpAnyY_pure (i := 4) (oi := _) (v := ?_) rfl (by kernel_rfl) (by kernel_rfl) (by kernel_rfl) (by kernel_rfl) (fun _ _ _ h => h) (Or.inl ⟨by rfl, ?_⟩) ?_
                              rotate_left
                              · (intro w hSw; go_simp; first | done | (with_reducible rfl))
                              simp only [Act.put, List.getElem_toArray, List.getElem_cons_succ, List.getElem_cons_zero, List.setIfInBounds_toArray, List.set_cons_zero, List.set_cons_succ]
                              refine wpAnyY_take (i := 5) (oi := _) (v := .agg (snv u).toArray) rfl (by kernel_rfl) (by kernel_rfl) (by kernel_rfl) (by kernel_rfl) (by kernel_rfl) (fun _ _ _ h => h) (yieldsIf_load_mid (by rfl) 33 _ rfl _ _ rfl _ _ (fun w hSw => fl_range snv_len (hSw.rowGet k0m) (by omega) j u HU.out) hdu.1 hdu.2 info33) (by assumption) ?_
                              simp only [Act.put, List.getElem_toArray, List.getElem_cons_succ, List.getElem_cons_zero, List.setIfInBounds_toArray, List.set_cons_zero, List.set_cons_succ]
                              refine wpAnyY_one (i := 6) (by kernel_rfl) rfl (fun K hK => ?_)
                              go_simp
                              refine (has_c _ (.slice aT i cT) T u (Ls.own snv_len HB.out (by rw [HTN.out]; exact k2m)) (by rw [HTN.out]; have := HNS.out; have := HRS.out.2.2; omega)).mono ?_
                              rintro e wh ⟨rfl, gh⟩
                              rw [decide_eq_true hut]
                              replace HB := Keep.mk (HB.out.grown gh)
                              refine hK.out _ _ (fun h => h.grown gh) ?_
                              clear hK K gh
                              have hHeld : (fun w' => Sep W w' (rowV 33 5 (.slice (some ⟨gB, 0, none⟩) m kB) m (fl snv A) :: boxA vb (vwv tick own (.slice aT i cT)) 29 :: rowV 33 5 (.slice aT i cT) i (fl snv T) :: boxA b3 [iv p, iv rad, iv sho] 39 :: boxA b2 [.int .u64 tick, .slice ac nc cc, .slice az ns cz, iv nx] 37 :: [])) wh := HB.out
                              refine wpAnyY_pure (i := 7) (oi := _) (v := ?_) rfl (by kernel_rfl) (by kernel_rfl) (by kernel_rfl) (by kernel_rfl) (fun _ _ _ h => h) (Or.inl ⟨by rfl, ?_⟩) ?_
                              rotate_left
                              · (intro w hSw; go_simp; first | done | (with_reducible rfl))
                              simp only [Act.put, List.getElem_toArray, List.getElem_cons_succ, List.getElem_cons_zero, List.setIfInBounds_toArray, List.set_cons_zero, List.set_cons_succ]
                              refine wpAnyY_pure (i := 8) (oi := _) (v := ?_) rfl (by kernel_rfl) (by kernel_rfl) (by kernel_rfl) (by kernel_rfl) (fun _ _ _ h => h) (Or.inl ⟨by rfl, ?_⟩) ?_
                              rotate_left
                              · (intro w hSw; go_simp; first | done | (with_reducible rfl))
                              simp only [Act.put, List.getElem_toArray, List.getElem_cons_succ, List.getElem_cons_zero, List.setIfInBounds_toArray, List.set_cons_zero, List.set_cons_succ]
                              refine wpAnyY_pure (i := 9) (oi := _) (v := undef) rfl (by kernel_rfl) (by kernel_rfl) (by kernel_rfl) (by kernel_rfl) (fun _ _ _ h => h) (Or.inr ⟨by rfl, rfl⟩) ?_
                              simp only [Act.put, List.getElem_toArray, List.getElem_cons_succ, List.getElem_cons_zero, List.setIfInBounds_toArray, List.set_cons_zero, List.set_cons_succ]
                              refine wpAnyY_pure (i := 10) (oi := _) (v := undef) rfl (by kernel_rfl) (by kernel_rfl) (by kernel_rfl) (by kernel_rfl) (fun _ _ _ h => h) (Or.inr ⟨by rfl, rfl⟩) ?_
                              simp only [Act.put, List.getElem_toArray, List.getElem_cons_succ, List.getElem_cons_zero, List.setIfInBounds_toArray, List.set_cons_zero, List.set_cons_succ]
                              refine wpAnyY_pure (i := 11) (oi := _) (v := undef) rfl (by kernel_rfl) (by kernel_rfl) (by kernel_rfl) (by kernel_rfl) (fun _ _ _ h => h) (Or.inr ⟨by rfl, rfl⟩) ?_
                              simp only [Act.put, List.getElem_toArray, List.getElem_cons_succ, List.getElem_cons_zero, List.setIfInBounds_toArray, List.set_cons_zero, List.set_cons_succ]
                              refine wpAnyY_pure (i := 12) (oi := _) (v := undef) rfl (by kernel_rfl) (by kernel_rfl) (by kernel_rfl) (by kernel_rfl) (fun _ _ _ h => h) (Or.inr ⟨by rfl, rfl⟩) ?_
                              simp only [Act.put, List.getElem_toArray, List.getElem_cons_succ, List.getElem_cons_zero, List.setIfInBounds_toArray, List.set_cons_zero, List.set_cons_succ]
                              refine wpAnyY_pure (i := 13) (oi := _) (v := undef) rfl (by kernel_rfl) (by kernel_rfl) (by kernel_rfl) (by kernel_rfl) (fun _ _ _ h => h) (Or.inr ⟨by rfl, rfl⟩) ?_
                              simp only [Act.put, List.getElem_toArray, List.getElem_cons_succ, List.getElem_cons_zero, List.setIfInBounds_toArray, List.set_cons_zero, List.set_cons_succ]
                              refine wpAnyY_pure (i := 14) (oi := _) (v := undef) rfl (by kernel_rfl) (by kernel_rfl) (by kernel_rfl) (by kernel_rfl) (fun _ _ _ h => h) (Or.inr ⟨by rfl, rfl⟩) ?_
                              simp only [Act.put, List.getElem_toArray, List.getElem_cons_succ, List.getElem_cons_zero, List.setIfInBounds_toArray, List.set_cons_zero, List.set_cons_succ]
                              refine wpAnyY_pure (i := 15) (oi := _) (v := undef) rfl (by kernel_rfl) (by kernel_rfl) (by kernel_rfl) (by kernel_rfl) (fun _ _ _ h => h) (Or.inr ⟨by rfl, rfl⟩) ?_
                              simp only [Act.put, List.getElem_toArray, List.getElem_cons_succ, List.getElem_cons_zero, List.setIfInBounds_toArray, List.set_cons_zero, List.set_cons_succ]
                              refine wpAnyY_pure (i := 16) (oi := _) (v := undef) rfl (by kernel_rfl) (by kernel_rfl) (by kernel_rfl) (by kernel_rfl) (fun _ _ _ h => h) (Or.inr ⟨by rfl, rfl⟩) ?_
                              simp only [Act.put, List.getElem_toArray, List.getElem_cons_succ, List.getElem_cons_zero, List.setIfInBounds_toArray, List.set_cons_zero, List.set_cons_succ]
                              refine wpAnyY_pure (i := 17) (oi := _) (v := undef) rfl (by kernel_rfl) (by kernel_rfl) (by kernel_rfl) (by kernel_rfl) (fun _ _ _ h => h) (Or.inr ⟨by rfl, rfl⟩) ?_
                              simp only [Act.put, List.getElem_toArray, List.getElem_cons_succ, List.getElem_cons_zero, List.setIfInBounds_toArray, List.set_cons_zero, List.set_cons_succ]
                              refine wpAnyY_pure (i := 18) (oi := _) (v := undef) rfl (by kernel_rfl) (by kernel_rfl) (by kernel_rfl) (by kernel_rfl) (fun _ _ _ h => h) (Or.inr ⟨by rfl, rfl⟩) ?_
                              simp only [Act.put, List.getElem_toArray, List.getElem_cons_succ, List.getElem_cons_zero, List.setIfInBounds_toArray, List.set_cons_zero, List.set_cons_succ]
                              refine wpAnyY_pure (i := 19) (oi := _) (v := undef) rfl (by kernel_rfl) (by kernel_rfl) (by kernel_rfl) (by kernel_rfl) (fun _ _ _ h => h) (Or.inr ⟨by rfl, rfl⟩) ?_
                              simp only [Act.put, List.getElem_toArray, List.getElem_cons_succ, List.getElem_cons_zero, List.setIfInBounds_toArray, List.set_cons_zero, List.set_cons_succ]
                              refine wpAnyY_pure (i := 20) (oi := _) (v := undef) rfl (by kernel_rfl) (by kernel_rfl) (by kernel_rfl) (by kernel_rfl) (fun _ _ _ h => h) (Or.inr ⟨by rfl, rfl⟩) ?_
                              simp only [Act.put, List.getElem_toArray, List.getElem_cons_succ, List.getElem_cons_zero, List.setIfInBounds_toArray, List.set_cons_zero, List.set_cons_succ]
                              refine wpAnyY_pure (i := 21) (oi := _) (v := undef) rfl (by kernel_rfl) (by kernel_rfl) (by kernel_rfl) (by kernel_rfl) (fun _ _ _ h => h) (Or.inr ⟨by rfl, rfl⟩) ?_
                              simp only [Act.put, List.getElem_toArray, List.getElem_cons_succ, List.getElem_cons_zero, List.setIfInBounds_toArray, List.set_cons_zero, List.set_cons_succ]
                              refine wpAnyY_pure (i := 22) (oi := _) (v := undef) rfl (by kernel_rfl) (by kernel_rfl) (by kernel_rfl) (by kernel_rfl) (fun _ _ _ h => h) (Or.inr ⟨by rfl, rfl⟩) ?_
                              simp only [Act.put, List.getElem_toArray, List.getElem_cons_succ, List.getElem_cons_zero, List.setIfInBounds_toArray, List.set_cons_zero, List.set_cons_succ]
                              refine wpAnyY_pure (i := 23) (oi := _) (v := undef) rfl (by kernel_rfl) (by kernel_rfl) (by kernel_rfl) (by kernel_rfl) (fun _ _ _ h => h) (Or.inr ⟨by rfl, rfl⟩) ?_
                              simp only [Act.put, List.getElem_toArray, List.getElem_cons_succ, List.getElem_cons_zero, List.setIfInBounds_toArray, List.set_cons_zero, List.set_cons_succ]
                              refine wpAnyY_pure (i := 24) (oi := _) (v := undef) rfl (by kernel_rfl) (by kernel_rfl) (by kernel_rfl) (by kernel_rfl) (fun _ _ _ h => h) (Or.inr ⟨by rfl, rfl⟩) ?_
                              simp only [Act.put, List.getElem_toArray, List.getElem_cons_succ, List.getElem_cons_zero, List.setIfInBounds_toArray, List.set_cons_zero, List.set_cons_succ]
                              refine wpAnyY_pure (i := 25) (oi := _) (v := undef) rfl (by kernel_rfl) (by kernel_rfl) (by kernel_rfl) (by kernel_rfl) (fun _ _ _ h => h) (Or.inr ⟨by rfl, rfl⟩) ?_
                              simp only [Act.put, List.getElem_toArray, List.getElem_cons_succ, List.getElem_cons_zero, List.setIfInBounds_toArray, List.set_cons_zero, List.set_cons_succ]
                              refine wpAnyY_pure (i := 26) (oi := _) (v := undef) rfl (by kernel_rfl) (by kernel_rfl) (by kernel_rfl) (by kernel_rfl) (fun _ _ _ h => h) (Or.inr ⟨by rfl, rfl⟩) ?_
                              simp only [Act.put, List.getElem_toArray, List.getElem_cons_succ, List.getElem_cons_zero, List.setIfInBounds_toArray, List.set_cons_zero, List.set_cons_succ]
                              refine wpAnyY_pure (i := 27) (oi := _) (v := ?_) rfl (by kernel_rfl) (by kernel_rfl) (by kernel_rfl) (by kernel_rfl) (fun _ _ _ h => h) (Or.inl ⟨by rfl, ?_⟩) ?_
                              rotate_left
                              · (intro w hSw; go_simp; first | done | (with_reducible rfl))
                              simp only [Act.put, List.getElem_toArray, List.getElem_cons_succ, List.getElem_cons_zero, List.setIfInBounds_toArray, List.set_cons_zero, List.set_cons_succ]
                              refine wpAnyY_done (by kernel_rfl) ?_ _
                              clear hHeld
                              go_wp2_with fail
                              go_roundw
                              case rel => exact ⟨j + 1, HIN.out, rfl, HB⟩
                              case measure => simp [intOf]; have := HIN.out; omega
                            · have HFR := Keep.mk (HTL.out.2.2 u HUM.out hut)
                              have f1 : decide ((i : Int) < sh) = false := decide_eq_false (by have := HFR.out.1; omega)
                              have f2 : decide (d2 own.x own.y u.x u.y < farL own.x own.y T) = false := decide_eq_false (by have := HFR.out.2; omega)
                              go_wp2_with fail
                              refine region_Y (S := fun w' => Sep W w' (rowV 33 5 (.slice (some ⟨gB, 0, none⟩) m kB) m (fl snv A) :: boxA vb (vwv tick own (.slice aT i cT)) 29 :: rowV 33 5 (.slice aT i cT) i (fl snv T) :: boxA b3 [iv p, iv rad, iv sho] 39 :: boxA b2 [.int .u64 tick, .slice ac nc cc, .slice az ns cz, iv nx] 37 :: [])) [] (by kernel_rfl) ?_
                              obtain ⟨W40, hW40⟩ : ∃ W_, wr.drew = W_ := ⟨_, rfl⟩
                              replace HB := Keep.mk (HB.out.grown (gr_drew _ none))
                              rw [hW40] at HB ⊢
                              clear hW40
                              have hHeld : (fun w' => Sep W w' (rowV 33 5 (.slice (some ⟨gB, 0, none⟩) m kB) m (fl snv A) :: boxA vb (vwv tick own (.slice aT i cT)) 29 :: rowV 33 5 (.slice aT i cT) i (fl snv T) :: boxA b3 [iv p, iv rad, iv sho] 39 :: boxA b2 [.int .u64 tick, .slice ac nc cc, .slice az ns cz, iv nx] 37 :: [])) W40 := HB.out
                              refine wpAnyY_pure (i := 0) (oi := _) (v := ?_) rfl (by kernel_rfl) (by kernel_rfl) (by kernel_rfl) (by kernel_rfl) (fun _ _ _ h => h) (Or.inl ⟨by rfl, ?_⟩) ?_
                              rotate_left
                              · (intro w hSw; go_simp; first | done | (with_reducible rfl))
                              simp only [Act.put, List.getElem_toArray, List.getElem_cons_zero, List.setIfInBounds_toArray, List.set_cons_zero, List.set_cons_succ]
                              refine wpAnyY_take (i := 1) (oi := _) (v := ?_) rfl (by kernel_rfl) (by kernel_rfl) (by kernel_rfl) (by kernel_rfl) (by kernel_rfl) (fun _ _ _ h => h) (Or.inl ⟨by rfl, ?_⟩) (by assumption) ?_
                              rotate_left
                              · (intro w hSw; have q := (hSw.boxGet k1m).cellv 15 _ rfl; go_simp; first | done | (with_reducible rfl))
                              simp only [Act.put, List.getElem_toArray, List.getElem_cons_succ, List.getElem_cons_zero, List.setIfInBounds_toArray, List.set_cons_zero, List.set_cons_succ]
                              refine wpAnyY_pure (i := 2) (oi := _) (v := ?_) rfl (by kernel_rfl) (by kernel_rfl) (by kernel_rfl) (by kernel_rfl) (fun _ _ _ h => h) (Or.inl ⟨by rfl, ?_⟩) ?_
                              rotate_left
                              · (intro w hSw; go_simp; first | done | (with_reducible rfl))
                              simp only [Act.put, List.getElem_toArray, List.getElem_cons_succ, List.getElem_cons_zero, List.setIfInBounds_toArray, List.set_cons_zero, List.set_cons_succ]
                              refine wpAnyY_pure (i := 3) (oi := _) (v := ?_) rfl (by kernel_rfl) (by kernel_rfl) (by kernel_rfl) (by kernel_rfl) (fun _ _ _ h => h) (Or.inl ⟨by rfl, ?_⟩) ?_
                              rotate_left
                              · (intro w hSw; go_simp; first | done | (with_reducible rfl))
                              simp only [Act.put, List.getElem_toArray, List.getElem_cons_succ, List.getElem_cons_zero, List.setIfInBounds_toArray, List.set_cons_zero, List.set_cons_succ]
                              refine wpAnyY_pure (i := 4) (oi := _) (v := ?_) rfl (by kernel_rfl) (by kernel_rfl) (by kernel_rfl) (by kernel_rfl) (fun _ _ _ h => h) (Or.inl ⟨by rfl, ?_⟩) ?_
                              rotate_left
                              · (intro w hSw; go_simp; first | done | (with_reducible rfl))
                              simp only [Act.put, List.getElem_toArray, List.getElem_cons_succ, List.getElem_cons_zero, List.setIfInBounds_toArray, List.set_cons_zero, List.set_cons_succ]
                              refine wpAnyY_take (i := 5) (oi := _) (v := .agg (snv u).toArray) rfl (by kernel_rfl) (by kernel_rfl) (by kernel_rfl) (by kernel_rfl) (by kernel_rfl) (fun _ _ _ h => h) (yieldsIf_load_mid (by rfl) 33 _ rfl _ _ rfl _ _ (fun w hSw => fl_range snv_len (hSw.rowGet k0m) (by omega) j u HU.out) hdu.1 hdu.2 info33) (by assumption) ?_
                              simp only [Act.put, List.getElem_toArray, List.getElem_cons_succ, List.getElem_cons_zero, List.setIfInBounds_toArray, List.set_cons_zero, List.set_cons_succ]
                              refine wpAnyY_one (i := 6) (by kernel_rfl) rfl (fun K hK => ?_)
                              go_simp
                              refine (has_c _ (.slice aT i cT) T u (Ls.own snv_len HB.out (by rw [HTN.out]; exact k2m)) (by rw [HTN.out]; have := HNS.out; have := HRS.out.2.2; omega)).mono ?_
                              rintro e wh ⟨rfl, gh⟩
                              rw [decide_eq_false hut]
                              replace HB := Keep.mk (HB.out.grown gh)
                              refine hK.out _ _ (fun h => h.grown gh) ?_
                              clear hK K gh
                              have hHeld : (fun w' => Sep W w' (rowV 33 5 (.slice (some ⟨gB, 0, none⟩) m kB) m (fl snv A) :: boxA vb (vwv tick own (.slice aT i cT)) 29 :: rowV 33 5 (.slice aT i cT) i (fl snv T) :: boxA b3 [iv p, iv rad, iv sho] 39 :: boxA b2 [.int .u64 tick, .slice ac nc cc, .slice az ns cz, iv nx] 37 :: [])) wh := HB.out
                              refine wpAnyY_pure (i := 7) (oi := _) (v := ?_) rfl (by kernel_rfl) (by kernel_rfl) (by kernel_rfl) (by kernel_rfl) (fun _ _ _ h => h) (Or.inl ⟨by rfl, ?_⟩) ?_
                              rotate_left
                              · (intro w hSw; go_simp; first | done | (with_reducible rfl))
                              simp only [Act.put, List.getElem_toArray, List.getElem_cons_succ, List.getElem_cons_zero, List.setIfInBounds_toArray, List.set_cons_zero, List.set_cons_succ]
                              refine wpAnyY_pure (i := 8) (oi := _) (v := ?_) rfl (by kernel_rfl) (by kernel_rfl) (by kernel_rfl) (by kernel_rfl) (fun _ _ _ h => h) (Or.inl ⟨by rfl, ?_⟩) ?_
                              rotate_left
                              · (intro w hSw; go_simp; first | done | (with_reducible rfl))
                              simp only [Act.put, List.getElem_toArray, List.getElem_cons_succ, List.getElem_cons_zero, List.setIfInBounds_toArray, List.set_cons_zero, List.set_cons_succ]
                              refine wpAnyY_pure (i := 9) (oi := _) (v := ?_) rfl (by kernel_rfl) (by kernel_rfl) (by kernel_rfl) (by kernel_rfl) (fun _ _ _ h => h) (Or.inl ⟨by rfl, ?_⟩) ?_
                              rotate_left
                              · (intro w hSw; go_simp; first | done | (with_reducible rfl))
                              simp only [Act.put, List.getElem_toArray, List.getElem_cons_succ, List.getElem_cons_zero, List.setIfInBounds_toArray, List.set_cons_zero, List.set_cons_succ]
                              refine wpAnyY_take (i := 10) (oi := _) (v := ?_) rfl (by kernel_rfl) (by kernel_rfl) (by kernel_rfl) (by kernel_rfl) (by kernel_rfl) (fun _ _ _ h => h) (Or.inl ⟨by rfl, ?_⟩) (by assumption) ?_
                              rotate_left
                              · (intro w hSw; have q := (hSw.boxGet k1m).cellv 15 _ rfl; go_simp; first | done | (with_reducible rfl))
                              simp only [Act.put, List.getElem_toArray, List.getElem_cons_succ, List.getElem_cons_zero, List.setIfInBounds_toArray, List.set_cons_zero, List.set_cons_succ]
                              refine wpAnyY_pure (i := 11) (oi := _) (v := ?_) rfl (by kernel_rfl) (by kernel_rfl) (by kernel_rfl) (by kernel_rfl) (fun _ _ _ h => h) (Or.inl ⟨by rfl, ?_⟩) ?_
                              rotate_left
                              · (intro w hSw; go_simp; first | done | (with_reducible rfl))
                              simp only [Act.put, List.getElem_toArray, List.getElem_cons_succ, List.getElem_cons_zero, List.setIfInBounds_toArray, List.set_cons_zero, List.set_cons_succ]
                              refine wpAnyY_pure (i := 12) (oi := _) (v := ?_) rfl (by kernel_rfl) (by kernel_rfl) (by kernel_rfl) (by kernel_rfl) (fun _ _ _ h => h) (Or.inl ⟨by rfl, ?_⟩) ?_
                              rotate_left
                              · (intro w hSw; go_simp; first | done | (with_reducible rfl))
                              simp only [Act.put, List.getElem_toArray, List.getElem_cons_succ, List.getElem_cons_zero, List.setIfInBounds_toArray, List.set_cons_zero, List.set_cons_succ]
                              refine wpAnyY_take (i := 13) (oi := _) (v := .bool false) rfl (by kernel_rfl) (by kernel_rfl) (by kernel_rfl) (by kernel_rfl) (by kernel_rfl) (fun _ _ _ h => h) (Or.inl ⟨by rfl, ?_⟩) (by assumption) ?_
                              · (intro w hSw; have q := f1; go_simp; first | done | rfl | (simp; done) | trace_state)
                              simp only [Act.put, List.getElem_toArray, List.getElem_cons_succ, List.getElem_cons_zero, List.setIfInBounds_toArray, List.set_cons_zero, List.set_cons_succ]
                              refine wpAnyY_pure (i := 14) (oi := _) (v := ?_) rfl (by kernel_rfl) (by kernel_rfl) (by kernel_rfl) (by kernel_rfl) (fun _ _ _ h => h) (Or.inl ⟨by rfl, ?_⟩) ?_
                              rotate_left
                              · (intro w hSw; go_simp; first | done | (with_reducible rfl))
                              simp only [Act.put, List.getElem_toArray, List.getElem_cons_succ, List.getElem_cons_zero, List.setIfInBounds_toArray, List.set_cons_zero, List.set_cons_succ]
                              refine wpAnyY_pure (i := 15) (oi := _) (v := ?_) rfl (by kernel_rfl) (by kernel_rfl) (by kernel_rfl) (by kernel_rfl) (fun _ _ _ h => h) (Or.inl ⟨by rfl, ?_⟩) ?_
                              rotate_left
                              · (intro w hSw; go_simp; first | done | (with_reducible rfl))
                              simp only [Act.put, List.getElem_toArray, List.getElem_cons_succ, List.getElem_cons_zero, List.setIfInBounds_toArray, List.set_cons_zero, List.set_cons_succ]
                              refine wpAnyY_pure (i := 16) (oi := _) (v := ?_) rfl (by kernel_rfl) (by kernel_rfl) (by kernel_rfl) (by kernel_rfl) (fun _ _ _ h => h) (Or.inl ⟨by rfl, ?_⟩) ?_
                              rotate_left
                              · (intro w hSw; go_simp; first | done | (with_reducible rfl))
                              simp only [Act.put, List.getElem_toArray, List.getElem_cons_succ, List.getElem_cons_zero, List.setIfInBounds_toArray, List.set_cons_zero, List.set_cons_succ]
                              refine wpAnyY_take (i := 17) (oi := _) (v := ?_) rfl (by kernel_rfl) (by kernel_rfl) (by kernel_rfl) (by kernel_rfl) (by kernel_rfl) (fun _ _ _ h => h) (Or.inl ⟨by rfl, ?_⟩) (by assumption) ?_
                              rotate_left
                              · (intro w hSw; have q := (hSw.boxGet k1m).cellv 3 _ rfl; have q2 := (hSw.boxGet k1m).cellv 4 _ rfl; go_simp; first | done | (with_reducible rfl))
                              simp only [Act.put, List.getElem_toArray, List.getElem_cons_succ, List.getElem_cons_zero, List.setIfInBounds_toArray, List.set_cons_zero, List.set_cons_succ]
                              refine wpAnyY_pure (i := 18) (oi := _) (v := ?_) rfl (by kernel_rfl) (by kernel_rfl) (by kernel_rfl) (by kernel_rfl) (fun _ _ _ h => h) (Or.inl ⟨by rfl, ?_⟩) ?_
                              rotate_left
                              · (intro w hSw; go_simp; first | done | (with_reducible rfl))
                              simp only [Act.put, List.getElem_toArray, List.getElem_cons_succ, List.getElem_cons_zero, List.setIfInBounds_toArray, List.set_cons_zero, List.set_cons_succ]
                              refine wpAnyY_pure (i := 19) (oi := _) (v := ?_) rfl (by kernel_rfl) (by kernel_rfl) (by kernel_rfl) (by kernel_rfl) (fun _ _ _ h => h) (Or.inl ⟨by rfl, ?_⟩) ?_
                              rotate_left
                              · (intro w hSw; go_simp; first | done | (with_reducible rfl))
                              simp only [Act.put, List.getElem_toArray, List.getElem_cons_succ, List.getElem_cons_zero, List.setIfInBounds_toArray, List.set_cons_zero, List.set_cons_succ]
                              refine wpAnyY_pure (i := 20) (oi := _) (v := ?_) rfl (by kernel_rfl) (by kernel_rfl) (by kernel_rfl) (by kernel_rfl) (fun _ _ _ h => h) (Or.inl ⟨by rfl, ?_⟩) ?_
                              rotate_left
                              · (intro w hSw; go_simp; first | done | (with_reducible rfl))
                              simp only [Act.put, List.getElem_toArray, List.getElem_cons_succ, List.getElem_cons_zero, List.setIfInBounds_toArray, List.set_cons_zero, List.set_cons_succ]
                              refine wpAnyY_pure (i := 21) (oi := _) (v := ?_) rfl (by kernel_rfl) (by kernel_rfl) (by kernel_rfl) (by kernel_rfl) (fun _ _ _ h => h) (Or.inl ⟨by rfl, ?_⟩) ?_
                              rotate_left
                              · (intro w hSw; go_simp; first | done | (with_reducible rfl))
                              simp only [Act.put, List.getElem_toArray, List.getElem_cons_succ, List.getElem_cons_zero, List.setIfInBounds_toArray, List.set_cons_zero, List.set_cons_succ]
                              refine wpAnyY_take (i := 22) (oi := _) (v := ?_) rfl (by kernel_rfl) (by kernel_rfl) (by kernel_rfl) (by kernel_rfl) (by kernel_rfl) (fun _ _ _ h => h) (Or.inl ⟨by rfl, ?_⟩) (by assumption) ?_
                              rotate_left
                              · (intro w hSw; have q := fl_range snv_len (hSw.rowGet k0m) (by omega) j u HU.out 2 (iv u.x) rfl; have q2 := fl_range snv_len (hSw.rowGet k0m) (by omega) j u HU.out 3 (iv u.y) rfl; go_simp; first | done | (with_reducible rfl))
                              simp only [Act.put, List.getElem_toArray, List.getElem_cons_succ, List.getElem_cons_zero, List.setIfInBounds_toArray, List.set_cons_zero, List.set_cons_succ]
                              refine wpAnyY_pure (i := 24) (oi := _) (v := ?_) rfl (by kernel_rfl) (by kernel_rfl) (by kernel_rfl) (by kernel_rfl) (fun _ _ _ h => h) (Or.inl ⟨by rfl, ?_⟩) ?_
                              rotate_left
                              · (intro w hSw; go_simp; first | done | (with_reducible rfl))
                              simp only [Act.put, List.getElem_toArray, List.getElem_cons_succ, List.getElem_cons_zero, List.setIfInBounds_toArray, List.set_cons_zero, List.set_cons_succ]
                              refine wpAnyY_one (i := 23) (by kernel_rfl) rfl (fun K hK => ?_)
                              go_simp
                              refine (dist_c own.x own.y u.x u.y HOC.out.1.x HOC.out.1.y (HA1.out.2.2.2 u HUM.out).x (HA1.out.2.2.2 u HUM.out).y _).mono ?_
                              rintro e wd ⟨rfl, gd⟩
                              replace HB := Keep.mk (HB.out.grown gd.g)
                              refine hK.out _ _ (fun h => h.grown gd.g) ?_
                              clear hK K gd
                              have hHeld : (fun w' => Sep W w' (rowV 33 5 (.slice (some ⟨gB, 0, none⟩) m kB) m (fl snv A) :: boxA vb (vwv tick own (.slice aT i cT)) 29 :: rowV 33 5 (.slice aT i cT) i (fl snv T) :: boxA b3 [iv p, iv rad, iv sho] 39 :: boxA b2 [.int .u64 tick, .slice ac nc cc, .slice az ns cz, iv nx] 37 :: [])) wd := HB.out
                              refine wpAnyY_take (i := 25) (oi := _) (v := .bool false) rfl (by kernel_rfl) (by kernel_rfl) (by kernel_rfl) (by kernel_rfl) (by kernel_rfl) (fun _ _ _ h => h) (Or.inl ⟨by rfl, ?_⟩) (by assumption) ?_
                              · (intro w hSw; have q := f2; go_simp; first | done | rfl | (simp; done) | trace_state)
                              simp only [Act.put, List.getElem_toArray, List.getElem_cons_succ, List.getElem_cons_zero, List.setIfInBounds_toArray, List.set_cons_zero, List.set_cons_succ]
                              refine wpAnyY_pure (i := 26) (oi := _) (v := ?_) rfl (by kernel_rfl) (by kernel_rfl) (by kernel_rfl) (by kernel_rfl) (fun _ _ _ h => h) (Or.inl ⟨by rfl, ?_⟩) ?_
                              rotate_left
                              · (intro w hSw; go_simp; first | done | (with_reducible rfl))
                              simp only [Act.put, List.getElem_toArray, List.getElem_cons_succ, List.getElem_cons_zero, List.setIfInBounds_toArray, List.set_cons_zero, List.set_cons_succ]
                              refine wpAnyY_pure (i := 27) (oi := _) (v := ?_) rfl (by kernel_rfl) (by kernel_rfl) (by kernel_rfl) (by kernel_rfl) (fun _ _ _ h => h) (Or.inl ⟨by rfl, ?_⟩) ?_
                              rotate_left
                              · (intro w hSw; go_simp; first | done | (with_reducible rfl))
                              simp only [Act.put, List.getElem_toArray, List.getElem_cons_succ, List.getElem_cons_zero, List.setIfInBounds_toArray, List.set_cons_zero, List.set_cons_succ]
                              refine wpAnyY_done (by kernel_rfl) ?_ _
                              clear hHeld
                              go_wp2_with fail
                              go_roundw
                              case rel => exact ⟨j + 1, HIN.out, rfl, HB⟩
                              case measure => simp [intOf]; have := HIN.out; omega
                          · have hlt1 : ¬ (j : Int) < (m : Int) := by omega
                            clear hlt hj
                            go_wp2_with fail
                            go_ret
                            exact ⟨rfl, HB.out.g⟩
end Go.Proofs.YtgedlabmndlooaaGreat
