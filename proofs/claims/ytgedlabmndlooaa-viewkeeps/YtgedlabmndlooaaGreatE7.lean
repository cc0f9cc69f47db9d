/- view: Of -/
import Derived.Test.YtgedlabmndlooaaGreatE6
namespace Go.Proofs.YtgedlabmndlooaaGreat
open Go Go.RowKit Go.Maps Go.Shelf Go.Lib Go.Sort

theorem Sep.join {w0 W W' : World} {l l' : List As} (h : Sep w0 W l) (h' : Sep W W' l') : Sep w0 W' (l' ++ l) := by
  obtain ⟨m, hm, hp, hd⟩ := h'.ex
  exact h.new h'.g ⟨m, hm, fun p q => ⟨(hp p q).1, fun i hi => .inr ((hp p q).2 i hi)⟩, hd⟩
/-- what is told of a state from a car -/
structure Tld (LC : List Cr) (LS : List Sh) (radius sho : Int) (own : Cr) (T : List Sn) : Prop where
  o : ∃ (C : List Cr) (S : List Sh), Fst1 (fun c : Cr => c.pl) LC C ∧ Fst1 (fun s : Sh => s.id) LS S ∧
    T.Perm ((fil own.pl (nsS (seenC C ++ S.map shoS) own.x own.y (65536 * kpZ radius 1024) (kpZ sho 32 + 1))).take (kpZ sho 32).toNat) ∧ T.Pairwise (fun a b => ltOf cfS b a = false)
theorem lay_len {LC C : List Cr} {LS S : List Sh} (h1 : C.length ≤ LC.length) (h2 : S.length ≤ LS.length) (hb : (LC.length + LS.length + 1) * 40 ≤ 140737488355328) : (seenC C ++ S.map shoS).length * 24 + 24 ≤ 140737488355328 := by
  rw [List.length_append, List.length_map]
  have := seenC_len C
  omega
theorem info37 : (Tryz.prog.info? 37).map (·.size) = some 4 := by kernel_rfl
theorem under37 : ∃ d, Tryz.prog.underlying 37 = some d ∧ d.isRow = true := ⟨_, Tryz.underlying37, rfl⟩
theorem ixZ_find {L : List Cr} {p : Int} {own : Cr} (h : L.find? (fun c => c.pl == p) = some own) : ∃ i : Nat, L[i]? = some own ∧ ixZ L p = (i : Int) ∧ i < L.length := by
  obtain ⟨h1, i, hi, h2, h3⟩ := List.find?_eq_some_iff_getElem.1 h
  refine ⟨i, by rw [List.getElem?_eq_getElem hi, h2], ixZ_some (i := i) (c := own) (fun t d ht hd e => ?_) (by rw [List.getElem?_eq_getElem hi, h2]) (by simpa using h1), hi⟩
  have q := h3 t ht
  obtain ⟨hl, e2⟩ := List.getElem?_eq_some_iff.1 hd
  rw [e2] at q
  simp [e] at q
theorem ixZ_nof {L : List Cr} {p : Int} (h : L.find? (fun c => c.pl == p) = none) : ixZ L p = -1 := ixZ_none fun t c hc e => by
  have q := List.find?_eq_none.1 h c (List.mem_of_getElem? hc)
  simp [e] at q
theorem zvw_one : ∀ u ∈ zvw, u.oneCell' = true := by
  intro u hu
  simp only [zvw, List.mem_cons, List.not_mem_nil, or_false] at hu
  rcases hu with rfl | rfl | rfl | rfl | rfl | rfl | rfl | rfl | rfl | rfl | rfl | rfl | rfl | rfl | rfl | rfl <;> rfl
theorem built29z : Tryz.prog.built 29 [] = some zvw.toArray := by kernel_rfl
/-- what Of answers -/
structure OfR (W W' : World) (tick : Int) (LC : List Cr) (LS : List Sh) (p radius sho : Int) (e : Ending) : Prop where
  no : LC.find? (fun c => c.pl == p) = none → e = .returned (.tuple #[.agg zvw.toArray, iv 210]) ∧ W.grownBy W' none
  yes : ∀ own, LC.find? (fun c => c.pl == p) = some own → ∃ v T, e = .returned (.tuple #[.agg (vwv tick own v).toArray, iv 0]) ∧ Tld LC LS radius sho own T ∧ Sep W W' [rowV 33 5 v T.length (fl snv T)]
structure StO (W : World) (vc vs : Value) (LC : List Cr) (LS : List Sh) : Prop where
  c : Ls crv 14 W vc LC
  s : Ls shv 7 W vs LS
  oc : ∀ c ∈ LC, CrOk c
  os : ∀ s ∈ LS, ShOk s
  bc : LC.length * 120 ≤ 140737488355328
  bs : LS.length * 56 ≤ 140737488355328
  bb : (LC.length + LS.length + 1) * 40 ≤ 140737488355328
theorem StO.kept {W W' : World} {vc vs : Value} {LC : List Cr} {LS : List Sh} (h : StO W vc vs LC LS) (g : W.grownBy W' none) : StO W' vc vs LC LS := ⟨h.c.kept g, h.s.kept g, h.oc, h.os, h.bc, h.bs, h.bb⟩
set_option maxRecDepth 100000 in
set_option maxHeartbeats 16000000 in
theorem of_c (W : World) (tick nx p radius sho : Int) (vc vs : Value) (LC : List Cr) (LS : List Sh) (hS : StO W vc vs LC LS) :
    Calls Tryz.prog 12 #[.agg #[.int .u64 tick, vc, vs, iv nx], iv p, iv radius, iv sho] W fun e W' => OfR W W' tick LC LS p radius sho e := by
  obtain ⟨hc, hs, oc, os, b1, b2, b3⟩ := hS
  have hc0 := hc
  obtain ⟨ac, cc, rfl, hcr⟩ := hc
  obtain ⟨nc, hncc⟩ : ∃ n, LC.length = n := ⟨_, rfl⟩
  rw [hncc] at hc0 hcr ⊢
  have HLC : Keep (Ls crv 14 W (.slice ac nc cc) LC ∧ Ls shv 7 W vs LS ∧ LC.length = nc) := ⟨⟨hc0, hs, hncc⟩⟩
  have HBD := Keep.mk (And.intro b1 (And.intro b2 b3))
  have HOK := Keep.mk (And.intro oc os)
  obtain ⟨ds, hds⟩ := under37
  obtain ⟨dc, hdc⟩ := under26
  have S1 := (((Sep.nil W).newBox #[.int .u64 tick, .slice ac nc cc, vs, iv nx] 37).newBox #[iv p] 3).newBox #[.int .u64 0, iv 0, .string { data := #[] }, iv 0, iv 0, iv 0, iv 0, iv 0, iv 0, iv 0, iv 0, iv 0, iv 0, iv 0, iv 0, .slice none 0 0] 29
  simp only [World.size_alloc] at S1
  obtain ⟨bs, hbs⟩ : ∃ b, W.heap.size = b := ⟨_, rfl⟩
  obtain ⟨pb, hpb⟩ : ∃ b, bs + 1 = b := ⟨_, rfl⟩
  obtain ⟨rb, hrb⟩ : ∃ b, pb + 1 = b := ⟨_, rfl⟩
  obtain ⟨Wa, hWa⟩ : ∃ w, ((W.alloc (.cells #[.int .u64 tick, .slice ac nc cc, vs, iv nx] 37)).alloc (.cells #[iv p] 3)).alloc (.cells #[.int .u64 0, iv 0, .string { data := #[] }, iv 0, iv 0, iv 0, iv 0, iv 0, iv 0, iv 0, iv 0, iv 0, iv 0, iv 0, iv 0, .slice none 0 0] 29) = w := ⟨_, rfl⟩
  rw [hWa, hbs, hpb, hrb] at S1
  have HA : Keep (Sep W Wa (boxA rb zvw 29 :: boxA pb [iv p] 3 :: boxA bs [.int .u64 tick, .slice ac nc cc, vs, iv nx] 37 :: [])) := ⟨S1⟩
  have c1 := (HA.out.boxGet k2m).cellv 1 _ rfl
  have HIX := Keep.mk (idx_c Wa (.slice ac nc cc) LC p pb (by omega) (HLC.out.1.kept HA.out.g) ((HA.out.boxGet k1m).cellv 0 _ rfl))
  clear S1 hs oc os b1 b2 b3 hc0 hncc
  go_enter Tryz.func12, Tryz.ntmps12
  go_wp2_with fail
  clear hWa hbs hpb hrb
  refine HIX.out.mono ?_
  rintro e W1 ⟨rfl, g1⟩
  have HB : Keep (Sep W W1 (boxA rb zvw 29 :: boxA pb [iv p] 3 :: boxA bs [.int .u64 tick, .slice ac nc cc, vs, iv nx] 37 :: [])) := ⟨HA.out.grown g1⟩
  clear HA HIX c1 g1
  cases hfd : LC.find? (fun c => c.pl == p) with
  | none =>
    have HX : Keep (ixZ LC p = -1) := ⟨ixZ_nof hfd⟩
    rw [HX.out]
    have HFD := Keep.mk hfd
    have HBT := Keep.mk built29z
    clear hcr hfd
    go_wp2_with (first
      | (show wpList _ _ _ ({ dst := _, op := Op.build 29 _, type := _, pos := _, after := _, guard := _ } :: _) _ _
         refine wpList_build rfl 29 _ rfl zvw.toArray ((congrArg (Tryz.prog.built 29) (by simp only [List.map_toArray, List.map_nil]; rfl)).trans HBT.out) ?_)
      | (show wpList _ _ _ ({ dst := _, op := Op.store 29 _ _, type := _, pos := _, after := _, guard := _ } :: _) _ _
         refine store_at _ rb 0 zvw zvw 29 29 rfl rfl rfl rfl (HB.out.boxGet k0m) (Nat.le_refl _) info29 zvw_one ?_
         intro w6 hS6 g6
         have S6 := hS6 _ _ HB.out
         rw [over_all _ _ rfl] at S6
         have HS6 := Keep.mk S6
         clear S6 hS6 g6))
    obtain ⟨dv, hdv⟩ := under29
    refine ret_ct rfl rfl (HS6.out.boxGet k0m) hdv.1 hdv.2 info29 rfl ?_
    refine ⟨fun _ => ⟨rfl, HS6.out.g⟩, fun own ho => ?_⟩
    rw [HFD.out] at ho
    cases ho
  | some own =>
    obtain ⟨i, hi, hix, hil⟩ := ixZ_find hfd
    rw [hix]
    have HFD := Keep.mk hfd
    rw [HLC.out.2.2] at hil
    obtain ⟨g, o, rfl, hrg⟩ := hcr (by omega)
    have HRG : Keep (W.rangeAt g (o + i * 14) (crv own)) := ⟨hrg i own hi⟩
    have HCO : Keep (CrOk own) := ⟨HOK.out.1 own (List.mem_of_getElem? hi)⟩
    have hi1 : (i : Int) < (nc : Int) := by omega
    have hi0 : (0 : Int) ≤ (i : Int) := by omega
    have hi2 : ¬ (i : Int) < 0 := by omega
    have hi3 : decide ((i : Int) < 0) = false := by simp
    have hit : ((i : Nat) : Int).toNat = i := by omega
    clear hcr hrg hi hix hil hfd
    go_wp2_with fail
    refine region_Y (S := fun w' => Sep W w' (boxA rb zvw 29 :: boxA pb [iv p] 3 :: boxA bs [.int .u64 tick, .slice (some ⟨g, o, none⟩) nc cc, vs, iv nx] 37 :: [])) [10] (by kernel_rfl) ?_
    obtain ⟨W0, hW0⟩ : ∃ W_, W1.drew = W_ := ⟨_, rfl⟩
    replace HB := Keep.mk (HB.out.grown (gr_drew _ none))
    rw [hW0] at HB ⊢
    clear hW0
    have hHeld : (fun w' => Sep W w' (boxA rb zvw 29 :: boxA pb [iv p] 3 :: boxA bs [.int .u64 tick, .slice (some ⟨g, o, none⟩) nc cc, vs, iv nx] 37 :: [])) W0 := HB.out
    refine wpAnyY_take (i := 0) (oi := _) (v := .agg ([.int .u64 tick, .slice (some ⟨g, o, none⟩) nc cc, vs, iv nx]).toArray) rfl (by kernel_rfl) (by kernel_rfl) (by kernel_rfl) (by kernel_rfl) (by kernel_rfl) (fun _ _ _ h => h) (yieldsIf_load_mid (by rfl) 37 _ rfl _ _ rfl _ _ (fun w hSw => (hSw.boxGet k2m).range) hds.1 hds.2 info37) (by assumption) ?_
    simp only [Act.put, List.getElem_toArray, List.getElem_cons_zero, List.setIfInBounds_toArray, List.set_cons_zero, List.set_cons_succ]
    refine wpAnyY_pure (i := 1) (oi := _) (v := ?_) rfl (by kernel_rfl) (by kernel_rfl) (by kernel_rfl) (by kernel_rfl) (fun _ _ _ h => h) (Or.inl ⟨by rfl, ?_⟩) ?_
    rotate_left
    · (intro w hSw; go_simp; first | done | (with_reducible rfl))
    simp only [Act.put, List.getElem_toArray, List.getElem_cons_succ, List.getElem_cons_zero, List.setIfInBounds_toArray, List.set_cons_zero, List.set_cons_succ]
    refine wpAnyY_pure (i := 2) (oi := _) (v := ?_) rfl (by kernel_rfl) (by kernel_rfl) (by kernel_rfl) (by kernel_rfl) (fun _ _ _ h => h) (Or.inl ⟨by rfl, ?_⟩) ?_
    rotate_left
    · (intro w hSw; go_simp; first | done | (with_reducible rfl))
    simp only [Act.put, List.getElem_toArray, List.getElem_cons_succ, List.getElem_cons_zero, List.setIfInBounds_toArray, List.set_cons_zero, List.set_cons_succ]
    refine wpAnyY_pure (i := 4) (oi := _) (v := ?_) rfl (by kernel_rfl) (by kernel_rfl) (by kernel_rfl) (by kernel_rfl) (fun _ _ _ h => h) (Or.inl ⟨by rfl, ?_⟩) ?_
    rotate_left
    · (intro w hSw; go_simp; first | done | (with_reducible rfl))
    simp only [Act.put, List.getElem_toArray, List.getElem_cons_succ, List.getElem_cons_zero, List.setIfInBounds_toArray, List.set_cons_zero, List.set_cons_succ]
    refine wpAnyY_take (i := 5) (oi := _) (v := ?_) rfl (by kernel_rfl) (by kernel_rfl) (by kernel_rfl) (by kernel_rfl) (by kernel_rfl) (fun _ _ _ h => h) (Or.inl ⟨by rfl, ?_⟩) (by assumption) ?_
    rotate_left
    · (intro w hSw; have q := (hSw.boxGet k2m).cellv 1 _ rfl; go_simp; first | done | (with_reducible rfl))
    simp only [Act.put, List.getElem_toArray, List.getElem_cons_succ, List.getElem_cons_zero, List.setIfInBounds_toArray, List.set_cons_zero, List.set_cons_succ]
    refine wpAnyY_pure (i := 6) (oi := _) (v := ?_) rfl (by kernel_rfl) (by kernel_rfl) (by kernel_rfl) (by kernel_rfl) (fun _ _ _ h => h) (Or.inl ⟨by rfl, ?_⟩) ?_
    rotate_left
    · (intro w hSw; go_simp; first | done | (with_reducible rfl))
    simp only [Act.put, List.getElem_toArray, List.getElem_cons_succ, List.getElem_cons_zero, List.setIfInBounds_toArray, List.set_cons_zero, List.set_cons_succ]
    refine wpAnyY_pure (i := 7) (oi := _) (v := ?_) rfl (by kernel_rfl) (by kernel_rfl) (by kernel_rfl) (by kernel_rfl) (fun _ _ _ h => h) (Or.inl ⟨by rfl, ?_⟩) ?_
    rotate_left
    · (intro w hSw; go_simp; first | done | (with_reducible rfl))
    simp only [Act.put, List.getElem_toArray, List.getElem_cons_succ, List.getElem_cons_zero, List.setIfInBounds_toArray, List.set_cons_zero, List.set_cons_succ]
    refine wpAnyY_take (i := 8) (oi := _) (v := .agg (crv own).toArray) rfl (by kernel_rfl) (by kernel_rfl) (by kernel_rfl) (by kernel_rfl) (by kernel_rfl) (fun _ _ _ h => h) (yieldsIf_load_mid (by rfl) 26 _ rfl _ _ rfl _ _ (fun w hSw => fun r u hu => hSw.g.cell (HRG.out r u hu) (by simp)) hdc.1 hdc.2 info26) (by assumption) ?_
    simp only [Act.put, List.getElem_toArray, List.getElem_cons_succ, List.getElem_cons_zero, List.setIfInBounds_toArray, List.set_cons_zero, List.set_cons_succ]
    refine wpAnyY_one (i := 3) (by kernel_rfl) rfl (fun K hK => ?_)
    go_simp
    refine (scene_c W0 tick nx radius sho (.slice (some ⟨g, o, none⟩) nc cc) vs LC LS (HLC.out.1.kept HB.out.g) (HLC.out.2.1.kept HB.out.g) HBD.out.1 HBD.out.2.1 HBD.out.2.2 HOK.out.1 HOK.out.2).mono ?_
    rintro e W2 ⟨sb, rfl, q2⟩
    obtain ⟨C, S, vC, vT, gb, sd, f1, f2, f3, f4, S2⟩ := q2.o
    have HF := Keep.mk (And.intro f1 (And.intro f2 (And.intro f3 f4)))
    have HB2 : Keep (Sep W W2 (boxA sb [.int .u64 tick, iv (65536 * kpZ radius 1024), iv (kpZ sho 32), vC, vT, pt gb] 80 :: rowV 33 5 vT (seenC C ++ S.map shoS).length (fl snv (seenC C ++ S.map shoS)) :: gridA gb sd (plM (seenC C ++ S.map shoS)) :: rowV 26 14 vC C.length (fl crv C) :: boxA rb zvw 29 :: boxA pb [iv p] 3 :: boxA bs [.int .u64 tick, .slice (some ⟨g, o, none⟩) nc cc, vs, iv nx] 37 :: [])) := ⟨HB.out.join S2⟩
    refine hK.out _ _ (fun _ => HB2.out.tail.tail.tail.tail) ?_
    clear hK K S2 HB hHeld q2 f1 f2 f3 f4
    refine wpAnyY_one (i := 9) (by kernel_rfl) rfl (fun K hK => ?_)
    go_simp
    refine (view_c W W2 (rowV 26 14 vC C.length (fl crv C) :: boxA rb zvw 29 :: boxA pb [iv p] 3 :: boxA bs [.int .u64 tick, .slice (some ⟨g, o, none⟩) nc cc, vs, iv nx] 37 :: []) sb gb vC vT tick (65536 * kpZ radius 1024) (kpZ sho 32) sd (seenC C ++ S.map shoS) own HCO.out (kpZ_in sho 32 (by decide)) (lay_len HF.out.2.2.1 HF.out.2.2.2 HBD.out.2.2) HB2.out).mono ?_
    rintro e W3 ⟨v, rfl, q3⟩
    obtain ⟨T, p1, p2, S3⟩ := q3.o
    have HSL : Keep (∃ a n c, v = .slice a n c) := ⟨by obtain ⟨a, c, e⟩ := own_slice (S3.rowGet k0m); exact ⟨_, _, _, e⟩⟩
    have HP : Keep (Tld LC LS radius sho own T) := ⟨⟨⟨C, S, HF.out.1, HF.out.2.1, p1, p2⟩⟩⟩
    have HB3 : Keep (Sep W W3 (boxA rb zvw 29 :: rowV 33 5 v T.length (fl snv T) :: boxA pb [iv p] 3 :: boxA bs [.int .u64 tick, .slice (some ⟨g, o, none⟩) nc cc, vs, iv nx] 37 :: [])) := ⟨by
      have q := Sep.dropM [_] [_, _, _, _] S3
      exact q.swap⟩
    refine hK.out _ _ (fun _ => Sep.dropM [_] [_] HB3.out) ?_
    clear hK K S3 HB2 p1 p2 q3
    refine wpAnyY_late (i := 10) (by kernel_rfl) rfl (by kernel_rfl) (fun K hK => ?_)
    rw [if_pos (show Region.wanted _ _ = true from rfl)]
    refine wp_store_mid 29 _ _ rfl rb 0 (vwv tick own v).toArray rfl rfl ((HB3.out.boxGet k0m).there 0 16 (Nat.le_refl _)) info29 (all_oneCell_toArray (vwv_one tick own v HSL.out)) ?_
    have S_ := HB3.out.boxTurn ((HB3.out.boxGet k0m).setCells (vwv tick own v) 0) (gr_sets _ _ _ _)
    have HS := Keep.mk S_
    clear HB3 S_
    refine hK.out _ _ ?_
    clear hK K
    change Keep (Sep W (World.setCells W3 rb 0 (vwv tick own v)) _) at HS
    show wpAnyY _ _ _ _ _ _ _ _ _ (World.setCells W3 rb 0 (vwv tick own v))
    generalize World.setCells W3 rb 0 (vwv tick own v) = W4 at HS ⊢
    simp only [Act.put, List.getElem_toArray, List.getElem_cons_succ, List.getElem_cons_zero]
    refine wpAnyY_one (i := 11) (by kernel_rfl) rfl (fun K hK => ?_)
    go_simp
    refine hK.out _ _ (fun h => h) ?_
    clear hK K
    refine wpAnyY_done (by kernel_rfl) ?_ _
    go_wp2_with fail
    obtain ⟨dv, hdv⟩ := under29
    refine ret_ct rfl rfl (HS.out.boxGet k0m) hdv.1 hdv.2 info29 rfl ?_
    refine ⟨fun h0 => ?_, fun ow2 ho => ?_⟩
    · rw [HFD.out] at h0; cases h0
    · rw [HFD.out] at ho
      injection ho with ho
      subst ho
      exact ⟨v, T, rfl, HP.out, Sep.dropM (l := []) [_] [_, _] HS.out.tail⟩
end Go.Proofs.YtgedlabmndlooaaGreat
