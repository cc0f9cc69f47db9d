/- E6, E7, E8 -/
import Derived.Test.YtgedlabmndlooaaGreatE5
import Derived.Test.YtgedlabmndlooaaGreatE1
namespace Go.Proofs.YtgedlabmndlooaaGreat
open Go Go.RowKit Go.Maps

/-- a view as it lies -/
def vwv (t : Int) (own : Cr) (v : Value) : List Value := [.int .u64 t, iv own.pl, .string own.nm, iv own.x, iv own.y, iv own.sx, iv own.sy, iv own.hd, iv own.he, iv own.en, iv own.am, iv own.co, iv own.wa, iv own.sp, iv own.sc, v]
def zvw : List Value := [.int .u64 0, iv 0, .string { data := #[] }, iv 0, iv 0, iv 0, iv 0, iv 0, iv 0, iv 0, iv 0, iv 0, iv 0, iv 0, iv 0, .slice none 0 0]
theorem vwv_one (t : Int) (own : Cr) (v : Value) (hv : ∃ a n c, v = .slice a n c) : ∀ u ∈ vwv t own v, u.oneCell' = true := by
  obtain ⟨a, n, c, rfl⟩ := hv
  intro u hu
  simp only [vwv, List.mem_cons, List.not_mem_nil, or_false] at hu
  rcases hu with rfl | rfl | rfl | rfl | rfl | rfl | rfl | rfl | rfl | rfl | rfl | rfl | rfl | rfl | rfl | rfl <;> rfl
theorem info29 : (Tryz.prog.info? 29).map (·.size) = some 16 := by kernel_rfl
theorem under29 : ∃ d, Tryz.prog.underlying 29 = some d ∧ d.isRow = true := ⟨_, Tryz.underlying29, rfl⟩
theorem built29 (t : Int) (own : Cr) (v : Value) (hv : ∃ a n c, v = .slice a n c) : Tryz.prog.built 29 [(0, .int .u64 t), (1, .agg (crv own).toArray), (2, v)] = some (vwv t own v).toArray := by
  obtain ⟨a, n, c, rfl⟩ := hv
  kernel_rfl
set_option maxRecDepth 100000 in
set_option maxHeartbeats 16000000 in
theorem view_c (w0 W : World) (l : List As) (sb gb : Nat) (vC vT : Value) (tick r sh sd : Int) (L : List Sn) (own : Cr) (ho : CrOk own) (hsh : 0 ≤ sh ∧ sh ≤ 32) (hl : L.length * 24 + 24 ≤ 140737488355328) (h : Sep w0 W (boxA sb [.int .u64 tick, iv r, iv sh, vC, vT, pt gb] 80 :: rowV 33 5 vT L.length (fl snv L) :: gridA gb sd (plM L) :: l)) :
    Calls Tryz.prog 32 #[pt sb, vlC own] W fun e W' => ∃ v, e = .returned (.agg (vwv tick own v).toArray) ∧ SeR w0 W' (boxA sb [.int .u64 tick, iv r, iv sh, vC, vT, pt gb] 80 :: rowV 33 5 vT L.length (fl snv L) :: gridA gb sd (plM L) :: l) L own r sh v := by
  have S1 := (h.newBox #[iv own.pl, .string own.nm, iv own.x, iv own.y, iv own.sx, iv own.sy, iv own.hd, iv own.he, iv own.en, iv own.am, iv own.co, iv own.wa, iv own.sp, iv own.sc] 26).newBox #[.int .u64 0, iv 0, .string { data := #[] }, iv 0, iv 0, iv 0, iv 0, iv 0, iv 0, iv 0, iv 0, iv 0, iv 0, iv 0, iv 0, .slice none 0 0] 29
  simp only [World.size_alloc] at S1
  obtain ⟨cb, hcb⟩ : ∃ b, W.heap.size = b := ⟨_, rfl⟩
  obtain ⟨rb, hrb⟩ : ∃ b, cb + 1 = b := ⟨_, rfl⟩
  obtain ⟨Wa, hWa⟩ : ∃ w, (W.alloc (.cells #[iv own.pl, .string own.nm, iv own.x, iv own.y, iv own.sx, iv own.sy, iv own.hd, iv own.he, iv own.en, iv own.am, iv own.co, iv own.wa, iv own.sp, iv own.sc] 26)).alloc (.cells #[.int .u64 0, iv 0, .string { data := #[] }, iv 0, iv 0, iv 0, iv 0, iv 0, iv 0, iv 0, iv 0, iv 0, iv 0, iv 0, iv 0, .slice none 0 0] 29) = w := ⟨_, rfl⟩
  rw [hWa, hcb, hrb] at S1
  have HA : Keep (Sep w0 Wa (boxA rb zvw 29 :: boxA cb (crv own) 26 :: boxA sb [.int .u64 tick, iv r, iv sh, vC, vT, pt gb] 80 :: rowV 33 5 vT L.length (fl snv L) :: gridA gb sd (plM L) :: l)) := ⟨S1⟩
  have HO := Keep.mk ho
  have HSH := Keep.mk hsh
  have HL := Keep.mk hl
  have HCL := Keep.mk (clone_c own.nm Wa ho.nm)
  obtain ⟨dc, hdc⟩ := under26
  have c1 := (HA.out.boxGet k1m).cellv 1 _ rfl
  clear S1 h ho hsh hl
  go_enter Tryz.func32, Tryz.ntmps32
  go_wp2_with fail
  clear hWa hcb hrb
  refine HCL.out.mono ?_
  rintro e Wb ⟨rfl, gb1⟩
  have Sb := HA.out.grown gb1
  have c2 := (Sb.boxGet k1m).cellv 1 _ rfl
  have y2 := (Sb.boxGet k1m).frozen 1
  have Sc := Sb.swap.boxPut 1 (.string own.nm)
  obtain ⟨W1, hW1⟩ : ∃ w, Wb.setCell ⟨cb, 1, none⟩ (.string own.nm) = w := ⟨_, rfl⟩
  rw [hW1] at Sc
  have HB : Keep (Sep w0 W1 (boxA cb (crv own) 26 :: boxA rb zvw 29 :: boxA sb [.int .u64 tick, iv r, iv sh, vC, vT, pt gb] 80 :: rowV 33 5 vT L.length (fl snv L) :: gridA gb sd (plM L) :: l)) := ⟨Sc⟩
  clear Sb Sc c1 gb1 HA HCL
  go_wp2_with fail
  clear hW1 c2 y2
  refine region_Y (S := fun w' => Sep w0 w' (boxA cb (crv own) 26 :: boxA rb zvw 29 :: boxA sb [.int .u64 tick, iv r, iv sh, vC, vT, pt gb] 80 :: rowV 33 5 vT L.length (fl snv L) :: gridA gb sd (plM L) :: l)) [9] (by kernel_rfl) ?_
  obtain ⟨W0, hW0⟩ : ∃ W_, W1.drew = W_ := ⟨_, rfl⟩
  replace HB := Keep.mk (HB.out.grown (gr_drew _ none))
  rw [hW0] at HB ⊢
  clear hW0
  have hHeld : (fun w' => Sep w0 w' (boxA cb (crv own) 26 :: boxA rb zvw 29 :: boxA sb [.int .u64 tick, iv r, iv sh, vC, vT, pt gb] 80 :: rowV 33 5 vT L.length (fl snv L) :: gridA gb sd (plM L) :: l)) W0 := HB.out
  refine yp (i := 0) (v := ?_) rfl (Or.inl ⟨by rfl, ?_⟩) ?_
  rotate_left
  · (intro w hSw; go_simp; first | done | (with_reducible rfl))
  simp only [Act.put, A1, A3, A4, A5, A6]
  refine yp (i := 1) (v := ?_) rfl (Or.inl ⟨by rfl, ?_⟩) ?_
  rotate_left
  · (intro w hSw; go_simp; first | done | (with_reducible rfl))
  simp only [Act.put, A1, A2, A3, A4, A5, A6]
  refine yp (i := 2) (v := ?_) rfl (Or.inl ⟨by rfl, ?_⟩) ?_
  rotate_left
  · (intro w hSw; go_simp; first | done | (with_reducible rfl))
  simp only [Act.put, A1, A2, A3, A4, A5, A6]
  refine yt (i := 3) (v := ?_) rfl (Or.inl ⟨by rfl, ?_⟩) (by assumption) ?_
  rotate_left
  · (intro w hSw; have q := (hSw.boxGet k2m).cellv 0 _ rfl; go_simp; first | done | (with_reducible rfl))
  simp only [Act.put, A1, A2, A3, A4, A5, A6]
  refine yt (i := 4) (v := .agg (crv own).toArray) rfl (yieldsIf_load_mid (by rfl) 26 _ rfl _ _ rfl _ _ (fun w hSw => (hSw.boxGet k0m).range) hdc.1 hdc.2 info26) (by assumption) ?_
  simp only [Act.put, A1, A2, A3, A4, A5, A6]
  refine yp (i := 5) (v := ?_) rfl (Or.inl ⟨by rfl, ?_⟩) ?_
  rotate_left
  · (intro w hSw; go_simp; first | done | (with_reducible rfl))
  simp only [Act.put, A1, A2, A3, A4, A5, A6]
  refine yt (i := 6) (v := .agg (crv own).toArray) rfl (yieldsIf_load_mid (by rfl) 26 _ rfl _ _ rfl _ _ (fun w hSw => (hSw.boxGet k0m).range) hdc.1 hdc.2 info26) (by assumption) ?_
  simp only [Act.put, A1, A2, A3, A4, A5, A6]
  refine wpAnyY_one (i := 7) (by kernel_rfl) rfl (fun K hK => ?_)
  go_simp
  refine (seen_c w0 W0 (boxA cb (crv own) 26 :: boxA rb zvw 29 :: l) sb gb (.int .u64 tick) vC vT r sh sd L own HO.out HSH.out HL.out ((fr1 [_, _, _, _] (fr1 [_, _, _, _] (fr1 [_, _, _, _] (fr1 [_] (fr1 [_] HB.out))))))).mono ?_
  rintro e W2 ⟨v, rfl, q2⟩
  obtain ⟨T, p1, p2, S2⟩ := q2.o
  have HSL : Keep (∃ a n c, v = .slice a n c) := ⟨by obtain ⟨a, c, e⟩ := own_slice (S2.rowGet k0m); exact ⟨_, _, _, e⟩⟩
  have HP := Keep.mk (And.intro p1 p2)
  have HB2 : Keep (Sep w0 W2 (boxA cb (crv own) 26 :: boxA rb zvw 29 :: rowV 33 5 v T.length (fl snv T) :: boxA sb [.int .u64 tick, iv r, iv sh, vC, vT, pt gb] 80 :: rowV 33 5 vT L.length (fl snv L) :: gridA gb sd (plM L) :: l)) := ⟨(fr1 [_, _, _, _, _] (fr1 [_, _, _, _, _] (fr1 [_, _, _] (fr1 [_, _, _] (fr1 [_, _, _] (fr1 [_, _, _] S2))))))⟩
  refine hK.out _ _ (fun _ => Sep.dropM [_, _] [_] HB2.out) ?_
  clear hK K S2 HB hHeld p1 p2 q2
  refine yp (i := 8) (v := .agg (vwv tick own v).toArray) rfl (yieldsIf_build (by rfl) 29 _ rfl _ ?_) ?_
  · refine (congrArg (Tryz.prog.built 29) ?_).trans (built29 tick own v (HSL.out))
    simp only [List.map_toArray, List.map_cons, List.map_nil]
    rfl
  simp only [Act.put, A1, A2, A3, A4, A5, A6]
  refine wpAnyY_late (i := 9) (by kernel_rfl) rfl (by kernel_rfl) (fun K hK => ?_)
  rw [if_pos (show Region.wanted _ _ = true from rfl)]
  refine wp_store_mid 29 _ _ rfl rb 0 (vwv tick own v).toArray rfl rfl ((HB2.out.boxGet k1m).there 0 16 (Nat.le_refl _)) info29 (all_oneCell_toArray (vwv_one tick own v HSL.out)) ?_
  have S_ := HB2.out.swap.boxTurn ((HB2.out.boxGet k1m).setCells (vwv tick own v) 0) (gr_sets _ _ _ _)
  have HS := Keep.mk S_
  clear HB2 S_
  refine hK.out _ _ ?_
  clear hK K
  change Keep (Sep w0 (World.setCells W2 rb 0 (vwv tick own v)) _) at HS
  show wpAnyY _ _ _ _ _ _ _ _ _ (World.setCells W2 rb 0 (vwv tick own v))
  generalize World.setCells W2 rb 0 (vwv tick own v) = W3 at HS ⊢
  simp only [Act.put, A1, A2, A3]
  refine wpAnyY_done (by kernel_rfl) ?_ _
  go_wp2_with fail
  obtain ⟨dv, hdv⟩ := under29
  refine ret_c rfl rfl (HS.out.boxGet k0m) hdv.1 hdv.2 info29 rfl ?_
  refine ⟨v, rfl, ⟨T, HP.out.1, HP.out.2, ?_⟩⟩
  exact HS.out.tail.tail
end Go.Proofs.YtgedlabmndlooaaGreat

namespace Go.Proofs.YtgedlabmndlooaaGreat
open Go Go.RowKit Go.Maps Go.Shelf Go.Lib Go.Sort

theorem Sep.join {w0 W W' : World} {l l' : List As} (h : Sep w0 W l) (h' : Sep W W' l') : Sep w0 W' (l' ++ l) := by
  obtain ⟨m, hm, hp, hd⟩ := h'.ex
  exact h.new h'.g ⟨m, hm, fun p q => ⟨(hp p q).1, fun i hi => .inr ((hp p q).2 i hi)⟩, hd⟩
/-- what is told of a state from a car -/
structure Tld (LC : List Cr) (LS : List Sh) (radius sho : Int) (own : Cr) (T : List Sn) : Prop where
  o : ∃ (C : List Cr) (S : List Sh), Fst1 (fun c : Cr => c.pl) LC C ∧ Fst1 (fun s : Sh => s.id) LS S ∧
    T.Perm ((fil own.pl (nsS (seenC C ++ S.map shoS) own.x own.y (65536 * kpZ radius 1024) (kpZ sho 32 + 1))).take (kpZ sho 32).toNat) ∧ T.Pairwise (fun a b => ltOf cfS b a = false)
theorem lay_len {LC C : List Cr} {LS S : List Sh} (h1 : C.length ≤ LC.length) (h2 : S.length ≤ LS.length) (hb : (LC.length + LS.length + 1) * 40 ≤ 140737488355328) : (seenC C ++ S.map shoS).length * 24 + 24 ≤ 140737488355328 := by
  rw [List.length_append, List.length_map]
  have := seenC_len C
  omega
theorem info37 : (Tryz.prog.info? 37).map (·.size) = some 4 := by kernel_rfl
theorem under37 : ∃ d, Tryz.prog.underlying 37 = some d ∧ d.isRow = true := ⟨_, Tryz.underlying37, rfl⟩
theorem ixZ_find {L : List Cr} {p : Int} {own : Cr} (h : L.find? (fun c => c.pl == p) = some own) : ∃ i : Nat, L[i]? = some own ∧ ixZ L p = (i : Int) ∧ i < L.length := by
  obtain ⟨h1, i, hi, h2, h3⟩ := List.find?_eq_some_iff_getElem.1 h
  refine ⟨i, by rw [List.getElem?_eq_getElem hi, h2], ixZ_some (i := i) (c := own) (fun t d ht hd e => ?_) (by rw [List.getElem?_eq_getElem hi, h2]) (by simpa using h1), hi⟩
  have q := h3 t ht
  obtain ⟨hl, e2⟩ := List.getElem?_eq_some_iff.1 hd
  rw [e2] at q
  simp [e] at q
theorem ixZ_nof {L : List Cr} {p : Int} (h : L.find? (fun c => c.pl == p) = none) : ixZ L p = -1 := ixZ_none fun t c hc e => by
  have q := List.find?_eq_none.1 h c (List.mem_of_getElem? hc)
  simp [e] at q
theorem zvw_one : ∀ u ∈ zvw, u.oneCell' = true := by
  intro u hu
  simp only [zvw, List.mem_cons, List.not_mem_nil, or_false] at hu
  rcases hu with rfl | rfl | rfl | rfl | rfl | rfl | rfl | rfl | rfl | rfl | rfl | rfl | rfl | rfl | rfl | rfl <;> rfl
theorem built29z : Tryz.prog.built 29 [] = some zvw.toArray := by kernel_rfl
/-- what Of answers -/
structure OfR (W W' : World) (tick : Int) (LC : List Cr) (LS : List Sh) (p radius sho : Int) (e : Ending) : Prop where
  no : LC.find? (fun c => c.pl == p) = none → e = .returned (.tuple #[.agg zvw.toArray, iv 210]) ∧ W.grownBy W' none
  yes : ∀ own, LC.find? (fun c => c.pl == p) = some own → ∃ v T, e = .returned (.tuple #[.agg (vwv tick own v).toArray, iv 0]) ∧ Tld LC LS radius sho own T ∧ Sep W W' [rowV 33 5 v T.length (fl snv T)]
structure StO (W : World) (vc vs : Value) (LC : List Cr) (LS : List Sh) : Prop where
  c : Ls crv 14 W vc LC
  s : Ls shv 7 W vs LS
  oc : ∀ c ∈ LC, CrOk c
  os : ∀ s ∈ LS, ShOk s
  bc : LC.length * 120 ≤ 140737488355328
  bs : LS.length * 56 ≤ 140737488355328
  bb : (LC.length + LS.length + 1) * 40 ≤ 140737488355328
theorem StO.kept {W W' : World} {vc vs : Value} {LC : List Cr} {LS : List Sh} (h : StO W vc vs LC LS) (g : W.grownBy W' none) : StO W' vc vs LC LS := ⟨h.c.kept g, h.s.kept g, h.oc, h.os, h.bc, h.bs, h.bb⟩
set_option maxRecDepth 100000 in
set_option maxHeartbeats 16000000 in
theorem of_c (W : World) (tick nx p radius sho : Int) (vc vs : Value) (LC : List Cr) (LS : List Sh) (hS : StO W vc vs LC LS) :
    Calls Tryz.prog 12 #[.agg #[.int .u64 tick, vc, vs, iv nx], iv p, iv radius, iv sho] W fun e W' => OfR W W' tick LC LS p radius sho e := by
  obtain ⟨hc, hs, oc, os, b1, b2, b3⟩ := hS
  have hc0 := hc
  obtain ⟨ac, cc, rfl, hcr⟩ := hc
  obtain ⟨nc, hncc⟩ : ∃ n, LC.length = n := ⟨_, rfl⟩
  rw [hncc] at hc0 hcr ⊢
  have HLC : Keep (Ls crv 14 W (.slice ac nc cc) LC ∧ Ls shv 7 W vs LS ∧ LC.length = nc) := ⟨⟨hc0, hs, hncc⟩⟩
  have HBD := Keep.mk (And.intro b1 (And.intro b2 b3))
  have HOK := Keep.mk (And.intro oc os)
  obtain ⟨ds, hds⟩ := under37
  obtain ⟨dc, hdc⟩ := under26
  have S1 := (((Sep.nil W).newBox #[.int .u64 tick, .slice ac nc cc, vs, iv nx] 37).newBox #[iv p] 3).newBox #[.int .u64 0, iv 0, .string { data := #[] }, iv 0, iv 0, iv 0, iv 0, iv 0, iv 0, iv 0, iv 0, iv 0, iv 0, iv 0, iv 0, .slice none 0 0] 29
  simp only [World.size_alloc] at S1
  obtain ⟨bs, hbs⟩ : ∃ b, W.heap.size = b := ⟨_, rfl⟩
  obtain ⟨pb, hpb⟩ : ∃ b, bs + 1 = b := ⟨_, rfl⟩
  obtain ⟨rb, hrb⟩ : ∃ b, pb + 1 = b := ⟨_, rfl⟩
  obtain ⟨Wa, hWa⟩ : ∃ w, ((W.alloc (.cells #[.int .u64 tick, .slice ac nc cc, vs, iv nx] 37)).alloc (.cells #[iv p] 3)).alloc (.cells #[.int .u64 0, iv 0, .string { data := #[] }, iv 0, iv 0, iv 0, iv 0, iv 0, iv 0, iv 0, iv 0, iv 0, iv 0, iv 0, iv 0, .slice none 0 0] 29) = w := ⟨_, rfl⟩
  rw [hWa, hbs, hpb, hrb] at S1
  have HA : Keep (Sep W Wa (boxA rb zvw 29 :: boxA pb [iv p] 3 :: boxA bs [.int .u64 tick, .slice ac nc cc, vs, iv nx] 37 :: [])) := ⟨S1⟩
  have c1 := (HA.out.boxGet k2m).cellv 1 _ rfl
  have HIX := Keep.mk (idx_c Wa (.slice ac nc cc) LC p pb (by omega) (HLC.out.1.kept HA.out.g) ((HA.out.boxGet k1m).cellv 0 _ rfl))
  clear S1 hs oc os b1 b2 b3 hc0 hncc
  go_enter Tryz.func12, Tryz.ntmps12
  go_wp2_with fail
  clear hWa hbs hpb hrb
  refine HIX.out.mono ?_
  rintro e W1 ⟨rfl, g1⟩
  have HB : Keep (Sep W W1 (boxA rb zvw 29 :: boxA pb [iv p] 3 :: boxA bs [.int .u64 tick, .slice ac nc cc, vs, iv nx] 37 :: [])) := ⟨HA.out.grown g1⟩
  clear HA HIX c1 g1
  cases hfd : LC.find? (fun c => c.pl == p) with
  | none =>
    have HX : Keep (ixZ LC p = -1) := ⟨ixZ_nof hfd⟩
    rw [HX.out]
    have HFD := Keep.mk hfd
    have HBT := Keep.mk built29z
    clear hcr hfd
    go_wp2_with (first
      | (show wpList _ _ _ ({ dst := _, op := Op.build 29 _, type := _, pos := _, after := _, guard := _ } :: _) _ _
         refine wpList_build rfl 29 _ rfl zvw.toArray ((congrArg (Tryz.prog.built 29) (by simp only [List.map_toArray, List.map_nil]; rfl)).trans HBT.out) ?_)
      | (show wpList _ _ _ ({ dst := _, op := Op.store 29 _ _, type := _, pos := _, after := _, guard := _ } :: _) _ _
         refine store_at _ rb 0 zvw zvw 29 29 rfl rfl rfl rfl (HB.out.boxGet k0m) (Nat.le_refl _) info29 zvw_one ?_
         intro w6 hS6 g6
         have S6 := hS6 _ _ HB.out
         rw [over_all _ _ rfl] at S6
         have HS6 := Keep.mk S6
         clear S6 hS6 g6))
    obtain ⟨dv, hdv⟩ := under29
    refine ret_ct rfl rfl (HS6.out.boxGet k0m) hdv.1 hdv.2 info29 rfl ?_
    refine ⟨fun _ => ⟨rfl, HS6.out.g⟩, fun own ho => ?_⟩
    rw [HFD.out] at ho
    cases ho
  | some own =>
    obtain ⟨i, hi, hix, hil⟩ := ixZ_find hfd
    rw [hix]
    have HFD := Keep.mk hfd
    rw [HLC.out.2.2] at hil
    obtain ⟨g, o, rfl, hrg⟩ := hcr (by omega)
    have HRG : Keep (W.rangeAt g (o + i * 14) (crv own)) := ⟨hrg i own hi⟩
    have HCO : Keep (CrOk own) := ⟨HOK.out.1 own (List.mem_of_getElem? hi)⟩
    have hi1 : (i : Int) < (nc : Int) := by omega
    have hi0 : (0 : Int) ≤ (i : Int) := by omega
    have hi2 : ¬ (i : Int) < 0 := by omega
    have hi3 : decide ((i : Int) < 0) = false := by simp
    have hit : ((i : Nat) : Int).toNat = i := by omega
    clear hcr hrg hi hix hil hfd
    go_wp2_with fail
    refine region_Y (S := fun w' => Sep W w' (boxA rb zvw 29 :: boxA pb [iv p] 3 :: boxA bs [.int .u64 tick, .slice (some ⟨g, o, none⟩) nc cc, vs, iv nx] 37 :: [])) [10] (by kernel_rfl) ?_
    obtain ⟨W0, hW0⟩ : ∃ W_, W1.drew = W_ := ⟨_, rfl⟩
    replace HB := Keep.mk (HB.out.grown (gr_drew _ none))
    rw [hW0] at HB ⊢
    clear hW0
    have hHeld : (fun w' => Sep W w' (boxA rb zvw 29 :: boxA pb [iv p] 3 :: boxA bs [.int .u64 tick, .slice (some ⟨g, o, none⟩) nc cc, vs, iv nx] 37 :: [])) W0 := HB.out
    refine yt (i := 0) (v := .agg ([.int .u64 tick, .slice (some ⟨g, o, none⟩) nc cc, vs, iv nx]).toArray) rfl (yieldsIf_load_mid (by rfl) 37 _ rfl _ _ rfl _ _ (fun w hSw => (hSw.boxGet k2m).range) hds.1 hds.2 info37) (by assumption) ?_
    simp only [Act.put, A1, A3, A4, A5, A6]
    refine yp (i := 1) (v := ?_) rfl (Or.inl ⟨by rfl, ?_⟩) ?_
    rotate_left
    · (intro w hSw; go_simp; first | done | (with_reducible rfl))
    simp only [Act.put, A1, A2, A3, A4, A5, A6]
    refine yp (i := 2) (v := ?_) rfl (Or.inl ⟨by rfl, ?_⟩) ?_
    rotate_left
    · (intro w hSw; go_simp; first | done | (with_reducible rfl))
    simp only [Act.put, A1, A2, A3, A4, A5, A6]
    refine yp (i := 4) (v := ?_) rfl (Or.inl ⟨by rfl, ?_⟩) ?_
    rotate_left
    · (intro w hSw; go_simp; first | done | (with_reducible rfl))
    simp only [Act.put, A1, A2, A3, A4, A5, A6]
    refine yt (i := 5) (v := ?_) rfl (Or.inl ⟨by rfl, ?_⟩) (by assumption) ?_
    rotate_left
    · (intro w hSw; have q := (hSw.boxGet k2m).cellv 1 _ rfl; go_simp; first | done | (with_reducible rfl))
    simp only [Act.put, A1, A2, A3, A4, A5, A6]
    refine yp (i := 6) (v := ?_) rfl (Or.inl ⟨by rfl, ?_⟩) ?_
    rotate_left
    · (intro w hSw; go_simp; first | done | (with_reducible rfl))
    simp only [Act.put, A1, A2, A3, A4, A5, A6]
    refine yp (i := 7) (v := ?_) rfl (Or.inl ⟨by rfl, ?_⟩) ?_
    rotate_left
    · (intro w hSw; go_simp; first | done | (with_reducible rfl))
    simp only [Act.put, A1, A2, A3, A4, A5, A6]
    refine yt (i := 8) (v := .agg (crv own).toArray) rfl (yieldsIf_load_mid (by rfl) 26 _ rfl _ _ rfl _ _ (fun w hSw => fun r u hu => hSw.g.cell (HRG.out r u hu) (by simp)) hdc.1 hdc.2 info26) (by assumption) ?_
    simp only [Act.put, A1, A2, A3, A4, A5, A6]
    refine wpAnyY_one (i := 3) (by kernel_rfl) rfl (fun K hK => ?_)
    go_simp
    refine (scene_c W0 tick nx radius sho (.slice (some ⟨g, o, none⟩) nc cc) vs LC LS (HLC.out.1.kept HB.out.g) (HLC.out.2.1.kept HB.out.g) HBD.out.1 HBD.out.2.1 HBD.out.2.2 HOK.out.1 HOK.out.2).mono ?_
    rintro e W2 ⟨sb, rfl, q2⟩
    obtain ⟨C, S, vC, vT, gb, sd, f1, f2, f3, f4, S2⟩ := q2.o
    have HF := Keep.mk (And.intro f1 (And.intro f2 (And.intro f3 f4)))
    have HB2 : Keep (Sep W W2 (boxA sb [.int .u64 tick, iv (65536 * kpZ radius 1024), iv (kpZ sho 32), vC, vT, pt gb] 80 :: rowV 33 5 vT (seenC C ++ S.map shoS).length (fl snv (seenC C ++ S.map shoS)) :: gridA gb sd (plM (seenC C ++ S.map shoS)) :: rowV 26 14 vC C.length (fl crv C) :: boxA rb zvw 29 :: boxA pb [iv p] 3 :: boxA bs [.int .u64 tick, .slice (some ⟨g, o, none⟩) nc cc, vs, iv nx] 37 :: [])) := ⟨HB.out.join S2⟩
    refine hK.out _ _ (fun _ => HB2.out.tail.tail.tail.tail) ?_
    clear hK K S2 HB hHeld q2 f1 f2 f3 f4
    refine wpAnyY_one (i := 9) (by kernel_rfl) rfl (fun K hK => ?_)
    go_simp
    refine (view_c W W2 (rowV 26 14 vC C.length (fl crv C) :: boxA rb zvw 29 :: boxA pb [iv p] 3 :: boxA bs [.int .u64 tick, .slice (some ⟨g, o, none⟩) nc cc, vs, iv nx] 37 :: []) sb gb vC vT tick (65536 * kpZ radius 1024) (kpZ sho 32) sd (seenC C ++ S.map shoS) own HCO.out (kpZ_in sho 32 (by decide)) (lay_len HF.out.2.2.1 HF.out.2.2.2 HBD.out.2.2) HB2.out).mono ?_
    rintro e W3 ⟨v, rfl, q3⟩
    obtain ⟨T, p1, p2, S3⟩ := q3.o
    have HSL : Keep (∃ a n c, v = .slice a n c) := ⟨by obtain ⟨a, c, e⟩ := own_slice (S3.rowGet k0m); exact ⟨_, _, _, e⟩⟩
    have HP : Keep (Tld LC LS radius sho own T) := ⟨⟨⟨C, S, HF.out.1, HF.out.2.1, p1, p2⟩⟩⟩
    have HB3 : Keep (Sep W W3 (boxA rb zvw 29 :: rowV 33 5 v T.length (fl snv T) :: boxA pb [iv p] 3 :: boxA bs [.int .u64 tick, .slice (some ⟨g, o, none⟩) nc cc, vs, iv nx] 37 :: [])) := ⟨by
      have q := Sep.dropM [_] [_, _, _, _] S3
      exact q.swap⟩
    refine hK.out _ _ (fun _ => Sep.dropM [_] [_] HB3.out) ?_
    clear hK K S3 HB2 p1 p2 q3
    refine wpAnyY_late (i := 10) (by kernel_rfl) rfl (by kernel_rfl) (fun K hK => ?_)
    rw [if_pos (show Region.wanted _ _ = true from rfl)]
    refine wp_store_mid 29 _ _ rfl rb 0 (vwv tick own v).toArray rfl rfl ((HB3.out.boxGet k0m).there 0 16 (Nat.le_refl _)) info29 (all_oneCell_toArray (vwv_one tick own v HSL.out)) ?_
    have S_ := HB3.out.boxTurn ((HB3.out.boxGet k0m).setCells (vwv tick own v) 0) (gr_sets _ _ _ _)
    have HS := Keep.mk S_
    clear HB3 S_
    refine hK.out _ _ ?_
    clear hK K
    change Keep (Sep W (World.setCells W3 rb 0 (vwv tick own v)) _) at HS
    show wpAnyY _ _ _ _ _ _ _ _ _ (World.setCells W3 rb 0 (vwv tick own v))
    generalize World.setCells W3 rb 0 (vwv tick own v) = W4 at HS ⊢
    simp only [Act.put, A1, A2, A3]
    refine wpAnyY_one (i := 11) (by kernel_rfl) rfl (fun K hK => ?_)
    go_simp
    refine hK.out _ _ (fun h => h) ?_
    clear hK K
    refine wpAnyY_done (by kernel_rfl) ?_ _
    go_wp2_with fail
    obtain ⟨dv, hdv⟩ := under29
    refine ret_ct rfl rfl (HS.out.boxGet k0m) hdv.1 hdv.2 info29 rfl ?_
    refine ⟨fun h0 => ?_, fun ow2 ho => ?_⟩
    · rw [HFD.out] at h0; cases h0
    · rw [HFD.out] at ho
      injection ho with ho
      subst ho
      exact ⟨v, T, rfl, HP.out, Sep.dropM (l := []) [_] [_, _] HS.out.tail⟩
end Go.Proofs.YtgedlabmndlooaaGreat

namespace Go.Proofs.YtgedlabmndlooaaGreat
open Go Go.RowKit Go.Maps Go.Shelf Go.Lib Go.Sort

/-- a view that is told: its car, where what is seen lies, what is seen -/
abbrev Vt := Cr × Value × List Sn
def vwE (tick : Int) (q : Vt) : List Value := vwv tick q.1 q.2.1
def rwE (q : Vt) : As := rowV 33 5 q.2.1 q.2.2.length (fl snv q.2.2)
theorem vwE_len (tick : Int) (q : Vt) : (vwE tick q).length = 16 := rfl
theorem bsV (t : Int) (own : Cr) (v : Value) (hv : ∃ a n c, v = .slice a n c) (W : World) : (Instr.buildSlice 52 1 #[(0, .agg (vwv t own v).toArray)]).run Tryz.prog W = .ok (sl W.heap.size 1 1) (W.alloc (.cells (vwv t own v).toArray 29)) := by
  obtain ⟨a, n, c, rfl⟩ := hv
  kernel_rfl
theorem infoV : ∃ i, Tryz.prog.info? 29 = some i ∧ i.size = 16 ∧ i.bytes = 152 ∧ i.zero = some (.agg zvw.toArray) := by
  have h : (Tryz.prog.info? 29).map (fun i => (i.size, i.bytes, i.zero)) = some (16, 152, some (.agg zvw.toArray)) := by kernel_rfl
  cases e : Tryz.prog.info? 29 with
  | none => rw [e] at h; cases h
  | some i =>
    rw [e] at h
    simp only [Option.map_some, Option.some.injEq, Prod.mk.injEq] at h
    exact ⟨i, rfl, h.1, h.2.1, h.2.2⟩
theorem Sep.appV {w0 W : World} {l : List As} {v : Value} {Vs : List Vt} {tick : Int} (q : Vt) (hq : ∃ a n c, q.2.1 = .slice a n c) (h : Sep w0 W (rowV 29 16 v Vs.length (fl (vwE tick) Vs) :: l)) (hn : (Vs.length + 1) * 152 ≤ 140737488355328) :
    ∃ g c W', (Builtin.append_ #[52, 52] 52 #[v, sl W.heap.size 1 1]).run Tryz.prog (W.alloc (.cells (vwv tick q.1 q.2.1).toArray 29)) = .ok (sl g (Vs.length + 1) c) W' ∧ Sep w0 W' (rowV 29 16 (sl g (Vs.length + 1) c) (Vs ++ [q]).length (fl (vwE tick) (Vs ++ [q])) :: l) := by
  obtain ⟨i, i1, i2, i3, i4⟩ := infoV
  obtain ⟨g, c, W', r, S⟩ := Sep.app (t := 52) (bytes := 152) Tryz.underlying52 i1 i4 i2 i3 rfl (by decide) h (vwv tick q.1 q.2.1) rfl (vwv_one tick q.1 q.2.1 hq) hn (by decide)
  refine ⟨g, c, W', r, ?_⟩
  rw [fl_app, List.length_append, List.length_singleton, show fl (vwE tick) [q] = vwv tick q.1 q.2.1 by simp [fl, vwE]]
  exact S
theorem wpList_bs_run {P : Program} {w : World} {ops : Array Oper} {rest : List Oper} {o : Oper} {a : Act} {Q : Exit → Act → World → Prop} (hgd : o.guard = none) (x : Operand) (t : TypeId)
    (ho : o.op = .buildSlice t 1 #[(0, x)]) (v : Value) (hx : a.eval x = v) {v' : Value} {w' : World}
    (hr : (Instr.buildSlice t 1 #[(0, v)]).run P w = .ok v' w') (h : wpList P ops Q rest (a.put o.dst v') w') : wpList P ops Q (o :: rest) a w :=
  wpList_plain hgd fun _ hK => by
    unfold Oper.wp execOp
    simp only [ho, Sem.run_bind, Sem.run_pure, Result.andThen_ok, List.map_toArray, List.map_cons, List.map_nil, hx, hr]
    exact hK _ _ h
/-- what All answers -/
structure AlR (W W' : World) (tick : Int) (LC : List Cr) (LS : List Sh) (radius sho : Int) (v : Value) : Prop where
  o : ∃ (C : List Cr) (Vs : List Vt), Fst1 (fun c : Cr => c.pl) LC C ∧ C.length ≤ LC.length ∧ Vs.map (·.1) = C ∧ (∀ q ∈ Vs, Tld LC LS radius sho q.1 q.2.2 ∧ ∃ a n c, q.2.1 = .slice a n c) ∧ Sep W W' (rowV 29 16 v Vs.length (fl (vwE tick) Vs) :: Vs.map rwE)
set_option maxRecDepth 100000 in
set_option maxHeartbeats 16000000 in
theorem all_c (W : World) (tick nx radius sho : Int) (vc vs : Value) (LC : List Cr) (LS : List Sh) (hS : StO W vc vs LC LS) (hv : (LC.length + 1) * 152 ≤ 140737488355328) :
    Calls Tryz.prog 18 #[.agg #[.int .u64 tick, vc, vs, iv nx], iv radius, iv sho] W fun e W' => ∃ v, e = .returned v ∧ AlR W W' tick LC LS radius sho v := by
  have HS0 := Keep.mk hS
  have HV := Keep.mk hv
  obtain ⟨ds, hds⟩ := under37
  obtain ⟨dc, hdc⟩ := under26
  have S1 := (Sep.nil W).newBox #[.int .u64 tick, vc, vs, iv nx] 37
  obtain ⟨bs, hbs⟩ : ∃ b, W.heap.size = b := ⟨_, rfl⟩
  obtain ⟨Wa, hWa⟩ : ∃ w, W.alloc (.cells #[.int .u64 tick, vc, vs, iv nx] 37) = w := ⟨_, rfl⟩
  rw [hWa, hbs] at S1
  have HA : Keep (Sep W Wa [boxA bs [.int .u64 tick, vc, vs, iv nx] 37]) := ⟨S1⟩
  have HST := Keep.mk ((HA.out.boxGet k0m).range)
  clear S1 hS hv
  go_enter Tryz.func18, Tryz.ntmps18
  go_wp2_with (
    (show wpList _ _ _ ({ dst := some 11, op := Op.load 37 _, type := _, pos := _, after := _, guard := _ } :: _) _ _
     refine wpList_load_mid rfl 37 _ rfl _ _ rfl _ _ HST.out hds.1 hds.2 info37 ?_))
  clear hWa hbs
  have hK := HS0.out.kept HA.out.g
  refine (scene_c Wa tick nx radius sho vc vs LC LS hK.c hK.s hK.bc hK.bs hK.bb hK.oc hK.os).mono ?_
  rintro e W2 ⟨sb, rfl, q2⟩
  obtain ⟨C, S, vC, vT, gb, sd, f1, f2, f3, f4, S2⟩ := q2.o
  have HF := Keep.mk (And.intro f1 (And.intro f2 (And.intro f3 f4)))
  obtain ⟨aC, cC, rfl⟩ := own_slice (S2.rowGet k3m)
  obtain ⟨n, hn⟩ : ∃ n, C.length = n := ⟨_, rfl⟩
  have HN := Keep.mk hn
  have HB : Keep (Sep W W2 (rowV 29 16 (.slice none 0 0) 0 (fl (vwE tick) ([])) :: boxA sb [.int .u64 tick, iv (65536 * kpZ radius 1024), iv (kpZ sho 32), (.slice aC n cC), vT, pt gb] 80 :: rowV 33 5 vT (seenC C ++ S.map shoS).length (fl snv (seenC C ++ S.map shoS)) :: gridA gb sd (plM (seenC C ++ S.map shoS)) :: rowV 26 14 (.slice aC n cC) n (fl crv C) :: (([]).map rwE ++ [boxA bs [.int .u64 tick, vc, vs, iv nx] 37]))) := ⟨by
    have q := (HA.out.join S2).nilV 29 16
    rw [hn] at q
    exact q⟩
  have c3 := (HB.out.boxGet k1m).cellv 3 _ rfl
  rw [hn] at S2
  clear S2 q2 HA f1 f2 f3 f4 hn HST hK
  go_wp2_with fail
  clear c3
  go_loopw [8, 10, 20] (fun u8 u10 u20 wr => ∃ (i : Nat) (Vs : List Vt), i ≤ n ∧ u20 = iv i ∧ (∃ a c, u8 = .slice a i c) ∧ Keep (Vs.map (·.1) = C.take i) ∧ Keep (∀ q ∈ Vs, Tld LC LS radius sho q.1 q.2.2 ∧ ∃ a n c, q.2.1 = .slice a n c) ∧ Keep (Sep W wr (rowV 29 16 (u8) i (fl (vwE tick) (Vs)) :: boxA sb [.int .u64 tick, iv (65536 * kpZ radius 1024), iv (kpZ sho 32), (.slice aC n cC), vT, pt gb] 80 :: rowV 33 5 vT (seenC C ++ S.map shoS).length (fl snv (seenC C ++ S.map shoS)) :: gridA gb sd (plM (seenC C ++ S.map shoS)) :: rowV 26 14 (.slice aC n cC) n (fl crv C) :: ((Vs).map rwE ++ [boxA bs [.int .u64 tick, vc, vs, iv nx] 37])))) (fun _ _ u20 _ => (n - intOf u20).toNat)
  case atStart => exact ⟨0, [], by omega, rfl, ⟨_, _, rfl⟩, ⟨rfl⟩, ⟨fun q hq => by cases hq⟩, HB⟩
  case round =>
    clear HB
    obtain ⟨i, Vs, hi, rfl, ⟨av, cv, rfl⟩, HM, HQ, HB⟩ := hrel
    have HVL : Keep (Vs.length = i) := ⟨by
      have q := congrArg List.length HM.out
      rw [List.length_map, List.length_take, HN.out] at q
      omega⟩
    by_cases hlt : i < n
    · have hlt1 : (i : Int) < (n : Int) := by omega
      have hi0 : (0 : Int) ≤ (i : Int) := by omega
      have hit : ((i : Nat) : Int).toNat = i := by omega
      have hnn : n ≤ 281474976710656 := by have := HF.out.2.2.1; have := HS0.out.bc; have := HN.out; omega
      have hiw : IntKind.i64.wrap ((i : Int) + 1) = ((i + 1 : Nat) : Int) := by rw [IntKind.wrap_i64]; omega
      obtain ⟨c, hc⟩ : ∃ c, C[i]? = some c := ⟨_, List.getElem?_eq_getElem (by rw [HN.out]; exact hlt)⟩
      obtain ⟨gC, rfl⟩ : ∃ g, aC = some ⟨g, 0, none⟩ := by
        obtain ⟨g, c', e, _⟩ := own_any (HB.out.rowGet k4m) (by omega)
        injection e with e1 _ _
        exact ⟨g, e1⟩
      have HRG : Keep (wr.rangeAt gC (i * 14) (crv c)) := ⟨fl_range crv_len (HB.out.rowGet k4m) (by omega) i c hc⟩
      have HCO : Keep (CrOk c) := ⟨HS0.out.oc c (by
        have q := (HF.out.1.2 c).1 (List.mem_of_getElem? hc)
        exact List.mem_of_find?_eq_some q)⟩
      have HTK : Keep (C.take (i + 1) = C.take i ++ [c]) := ⟨by rw [List.take_add_one, hc]; rfl⟩
      have HLT := Keep.mk hlt
      have HON : Keep (∀ v ∈ crv c, v.oneCell' = true) := ⟨crv_one c⟩
      clear hc hlt hi hnn
      go_wp2_with (first
        | (show wpList _ _ _ ({ dst := some 23, op := Op.load 26 _, type := _, pos := _, after := _, guard := _ } :: _) _ _
           refine wpList_load_mid rfl 26 _ rfl _ _ rfl _ _ HRG.out hdc.1 hdc.2 info26 ?_)
        | (show wpList _ _ _ ({ dst := _, op := Op.store 26 _ _, type := _, pos := _, after := _, guard := _ } :: _) _ _
           refine store_new wr (crv c) 26 rfl rfl rfl rfl rfl info26 HON.out ?_))
      intro w6 hS6 g6
      obtain ⟨cb, hcb⟩ : ∃ b, wr.heap.size = b := ⟨_, rfl⟩
      have S6 := hS6 _ _ HB.out
      rw [hcb] at S6 ⊢
      have HR6 := Keep.mk ((S6.boxGet k0m).range)
      have HL : Keep (Sep W w6 (boxA sb [.int .u64 tick, iv (65536 * kpZ radius 1024), iv (kpZ sho 32), (.slice (some ⟨gC, 0, none⟩) n cC), vT, pt gb] 80 :: rowV 33 5 vT (seenC C ++ S.map shoS).length (fl snv (seenC C ++ S.map shoS)) :: gridA gb sd (plM (seenC C ++ S.map shoS)) :: rowV 26 14 (.slice (some ⟨gC, 0, none⟩) n cC) n (fl crv C) :: rowV 29 16 (.slice av i cv) i (fl (vwE tick) Vs) :: boxA cb (crv c) 26 :: (Vs.map rwE ++ [boxA bs [.int .u64 tick, vc, vs, iv nx] 37]))) := ⟨(fr1 [_, _, _, _, _] (fr1 [_, _, _, _, _] (fr1 [_, _, _, _, _] (fr1 [_, _, _, _, _] (fr1 [_] S6)))))⟩
      clear hS6 g6 S6 HB hcb HRG
      go_wp2_with (
        (show wpList _ _ _ ({ dst := some 26, op := Op.load 26 _, type := _, pos := _, after := _, guard := _ } :: _) _ _
         refine wpList_load_mid rfl 26 _ rfl _ _ rfl _ _ HR6.out hdc.1 hdc.2 info26 ?_))
      refine (view_c W w6 _ sb gb (.slice (some ⟨gC, 0, none⟩) n cC) vT tick (65536 * kpZ radius 1024) (kpZ sho 32) sd (seenC C ++ S.map shoS) c HCO.out (kpZ_in sho 32 (by decide)) (lay_len HF.out.2.2.1 HF.out.2.2.2 HS0.out.bb) HL.out).mono ?_
      rintro e w7 ⟨v7, rfl, q7⟩
      obtain ⟨T7, p1, p2, S7⟩ := q7.o
      have HSL : Keep (∃ a n c, v7 = .slice a n c) := ⟨by obtain ⟨a, c, e⟩ := own_slice (S7.rowGet k0m); exact ⟨_, _, _, e⟩⟩
      have HP : Keep (Tld LC LS radius sho c T7) := ⟨⟨⟨C, S, HF.out.1, HF.out.2.1, p1, p2⟩⟩⟩
      obtain ⟨g9, c9, W9, ap, S9⟩ := Sep.appV (Vs := Vs) (tick := tick) (c, v7, T7) HSL.out (v := .slice av i cv) (by
        rw [HVL.out]
        exact (fr1 [_, _, _, _, _, _] (fr1 [_, _, _, _, _, _] (fr1 [_, _, _, _] (fr1 [_, _, _, _] (fr1 [_, _, _, _] (fr1 [_, _, _, _] (fr1 [_, _, _, _] S7)))))))) (by rw [HVL.out]; have := HF.out.2.2.1; have := HN.out; have := HLT.out; have := HV.out; omega)
      rw [HVL.out] at ap S9
      have AP := Keep.mk ap
      have HG := Keep.mk (bsV tick c v7 HSL.out)
      have HM2 : Keep ((Vs ++ [(c, v7, T7)]).map (·.1) = C.take (i + 1)) := ⟨by rw [List.map_append, HM.out, HTK.out]; rfl⟩
      have HQ2 : Keep (∀ q ∈ Vs ++ [(c, v7, T7)], Tld LC LS radius sho q.1 q.2.2 ∧ ∃ a n c, q.2.1 = .slice a n c) := ⟨fun q hq => by
        rcases List.mem_append.1 hq with hq | hq
        · exact HQ.out q hq
        · rw [List.mem_singleton] at hq
          subst hq
          exact ⟨HP.out, HSL.out⟩⟩
      have HE : Keep (Sep W W9 (rowV 29 16 (sl g9 (i + 1) c9) (i + 1) (fl (vwE tick) (Vs ++ [(c, v7, T7)])) :: boxA sb [.int .u64 tick, iv (65536 * kpZ radius 1024), iv (kpZ sho 32), (sl gC n cC), vT, pt gb] 80 :: rowV 33 5 vT (seenC C ++ S.map shoS).length (fl snv (seenC C ++ S.map shoS)) :: gridA gb sd (plM (seenC C ++ S.map shoS)) :: rowV 26 14 (sl gC n cC) n (fl crv C) :: ((Vs ++ [(c, v7, T7)]).map rwE ++ [boxA bs [.int .u64 tick, vc, vs, iv nx] 37]))) := ⟨by
        have e1 : (Vs ++ [(c, v7, T7)]).length = i + 1 := by rw [List.length_append, HVL.out]; rfl
        rw [e1] at S9
        refine (Sep.dropM [_] [_] S9).perm ?_
        rw [List.map_append, List.append_assoc]
        exact List.Perm.cons _ (by
          refine (List.perm_middle (l₁ := [_, _, _, _]) (l₂ := Vs.map rwE ++ [_])).symm.trans ?_
          exact List.Perm.append_left [_, _, _, _] (by
            refine (List.perm_middle (l₁ := Vs.map rwE) (l₂ := [boxA bs [.int .u64 tick, vc, vs, iv nx] 37])).symm))⟩
      have HEV := Keep.mk HVL.out
      clear S9 HL p1 p2 q7 S7 ap HR6
      go_wp2_with (first
        | (show wpList _ _ _ ({ dst := some 28, op := Op.buildSlice 52 _ _, type := _, pos := _, after := _, guard := _ } :: _) _ _
           refine wpList_bs_run rfl (.tmp 27) 52 rfl _ rfl (HG.out _) ?_)
        | (show wpList _ _ _ ({ dst := some 29, op := Op.call { callee := Callee.builtin Builtin.append, args := _, argTypes := _ }, type := _, pos := _, after := _, guard := _ } :: _) _ _
           refine wpList_append_run _ rfl (.tmp 24) (.tmp 28) 52 rfl _ _ rfl rfl AP.out ?_))
      go_roundw
      case rel => exact ⟨i + 1, Vs ++ [(c, v7, T7)], HLT.out, rfl, ⟨_, _, rfl⟩, HM2, HQ2, HE⟩
      case measure => simp [intOf]; have := HLT.out; omega
    · have hlt1 : ¬ (i : Int) < (n : Int) := by omega
      have HE : Keep (AlR W wr tick LC LS radius sho (.slice av i cv)) := ⟨⟨C, Vs, HF.out.1, HF.out.2.2.1, by rw [HM.out, show i = C.length by rw [HN.out]; omega, List.take_length], HQ.out, by
        rw [HVL.out]
        have q := Sep.dropM [_] [_, _, _, _] HB.out
        refine (q.perm (List.Perm.cons _ (List.perm_append_comm (l₁ := Vs.map rwE) (l₂ := [_])))).swap.tail⟩⟩
      clear HB hlt hi
      go_wp2_with fail
      go_ret
      exact ⟨_, rfl, HE.out⟩
end Go.Proofs.YtgedlabmndlooaaGreat
