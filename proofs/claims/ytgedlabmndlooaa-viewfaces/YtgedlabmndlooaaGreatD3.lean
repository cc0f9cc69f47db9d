/- view: the scene -/
import Derived.Test.YtgedlabmndlooaaGreatD2
namespace Go.Proofs.YtgedlabmndlooaaGreat
open Go Go.RowKit Go.Maps

theorem ins_last (x : Pl) : ∀ M : List Pl, (∀ y ∈ M, y.id < x.id) → ins x M = M ++ [x]
  | [], _ => rfl
  | y :: r, h => by
    have h1 := h y (List.mem_cons_self ..)
    rw [ins, if_neg (by omega), ins_last x r (fun z hz => h z (List.mem_cons_of_mem _ hz))]
    rfl
/-- things by their numbers -/
def plF : Nat → List Sn → List Pl
  | _, [] => []
  | i, t :: r => ⟨(i : Int), t.x, t.y⟩ :: plF (i + 1) r
abbrev plM (L : List Sn) : List Pl := plF 0 L
theorem plF_len : ∀ (L : List Sn) (i : Nat), (plF i L).length = L.length
  | [], _ => rfl
  | t :: r, i => by rw [plF, List.length_cons, plF_len r, List.length_cons]
theorem plF_app : ∀ (L : List Sn) (i : Nat) (x : Sn), plF i (L ++ [x]) = plF i L ++ [⟨((i + L.length : Nat) : Int), x.x, x.y⟩]
  | [], i, x => rfl
  | t :: r, i, x => by
    rw [List.cons_append, plF, plF_app r (i + 1) x, plF, List.length_cons, List.cons_append, show i + 1 + r.length = i + (r.length + 1) by omega]
theorem plF_lt : ∀ (L : List Sn) (i : Nat), ∀ p ∈ plF i L, (i : Int) ≤ p.id ∧ p.id < ((i + L.length : Nat) : Int)
  | [], _, p, hp => by cases hp
  | t :: r, i, p, hp => by
    rw [plF, List.mem_cons] at hp
    rw [List.length_cons]
    rcases hp with rfl | hp
    · simp only
      omega
    · have := plF_lt r (i + 1) p hp
      omega
theorem put_plM (L : List Sn) (x : Sn) : putM (plM L) ⟨(L.length : Int), x.x, x.y⟩ = plM (L ++ [x]) := by
  have hl : ∀ y ∈ plM L, y.id < (L.length : Int) := fun y hy => by have := plF_lt L 0 y hy; omega
  unfold putM rmk
  rw [List.filter_eq_self.2 (fun y hy => by have := hl y hy; simp; omega), ins_last _ _ hl]
  show plF 0 L ++ _ = plF 0 (L ++ [x])
  rw [plF_app, Nat.zero_add]
def carS (c : Cr) : Sn := ⟨1, c.pl, c.x, c.y, c.hd⟩
def shoS (s : Sh) : Sn := ⟨2, s.id, s.x, s.y, 0⟩
/-- the cars that may be seen -/
def seenC (C : List Cr) : List Sn := (C.filter (fun c => decide (c.wa ≤ 0))).map carS
theorem seenC_app (C : List Cr) (c : Cr) : seenC (C ++ [c]) = if c.wa ≤ 0 then seenC C ++ [carS c] else seenC C := by
  unfold seenC
  rw [List.filter_append, List.map_append]
  by_cases h : c.wa ≤ 0
  · rw [if_pos h]; simp [h]
  · rw [if_neg h]; simp [h]
theorem seenC_len (C : List Cr) : (seenC C).length ≤ C.length := by unfold seenC; rw [List.length_map]; exact List.length_filter_le _ _
theorem built80 (t : Int) (a : Option Addr) (n c : Nat) (r sh : Int) : Tryz.prog.built 80 [(0, .int .u64 t), (1, iv r), (2, iv sh), (3, .slice a n c)] = some #[.int .u64 t, iv r, iv sh, .slice a n c, .slice none 0 0, .pointer none] := by kernel_rfl
theorem built33 (p x y h : Int) : Tryz.prog.built 33 [(0, iv 1), (1, iv p), (2, .agg #[iv x, iv y]), (3, iv h)] = some #[iv 1, iv p, iv x, iv y, iv h] := by kernel_rfl
theorem built33s (p x y : Int) : Tryz.prog.built 33 [(0, iv 2), (1, iv p), (2, .agg #[iv x, iv y])] = some #[iv 2, iv p, iv x, iv y, iv 0] := by kernel_rfl
/-- a scene as it lies -/
structure ScR (W W' : World) (tick : Int) (LC : List Cr) (LS : List Sh) (radius sho : Int) (sb : Nat) : Prop where
  o : ∃ (C : List Cr) (S : List Sh) (vC vT : Value) (gb : Nat) (sd : Int), Fst1 (fun c : Cr => c.pl) LC C ∧ Fst1 (fun s : Sh => s.id) LS S ∧ C.length ≤ LC.length ∧ S.length ≤ LS.length ∧
    Sep W W' [boxA sb [.int .u64 tick, iv (65536 * kpZ radius 1024), iv (kpZ sho 32), vC, vT, pt gb] 80, rowV 33 5 vT (seenC C ++ S.map shoS).length (fl snv (seenC C ++ S.map shoS)), gridA gb sd (plM (seenC C ++ S.map shoS)), rowV 26 14 vC C.length (fl crv C)]
set_option maxRecDepth 100000 in
set_option maxHeartbeats 16000000 in
theorem scene_c (W : World) (tick nx radius sho : Int) (vc vs : Value) (LC : List Cr) (LS : List Sh) (hc : Ls crv 14 W vc LC) (hs : Ls shv 7 W vs LS) (hnc : LC.length * 120 ≤ 140737488355328) (hns : LS.length * 56 ≤ 140737488355328) (hb : (LC.length + LS.length + 1) * 40 ≤ 140737488355328) (oc : ∀ c ∈ LC, CrOk c) (os : ∀ s ∈ LS, ShOk s) :
    Calls Tryz.prog 31 #[.agg #[.int .u64 tick, vc, vs, iv nx], iv radius, iv sho] W fun e W' => ∃ sb, e = .returned (pt sb) ∧ ScR W W' tick LC LS radius sho sb := by
  have hc0 := hc
  have hs0 := hs
  have HBD := Keep.mk hb
  have HOC := Keep.mk oc
  have HOS := Keep.mk os
  obtain ⟨ac, cc, rfl, _⟩ := hc
  obtain ⟨az, cs, rfl, _⟩ := hs
  obtain ⟨nc, hncc⟩ : ∃ n, LC.length = n := ⟨_, rfl⟩
  obtain ⟨ns, hnss⟩ : ∃ n, LS.length = n := ⟨_, rfl⟩
  have HLC : Keep (LC.length * 120 ≤ 140737488355328 ∧ Ls crv 14 W (.slice ac nc cc) LC) := ⟨⟨hnc, by rw [← hncc]; exact hc0⟩⟩
  have HLS : Keep (LS.length * 56 ≤ 140737488355328 ∧ Ls shv 7 W (.slice az ns cs) LS) := ⟨⟨hns, by rw [← hnss]; exact hs0⟩⟩
  rw [hncc, hnss]
  have HLL : Keep (LC.length = nc ∧ LS.length = ns) := ⟨⟨hncc, hnss⟩⟩
  clear hc0 hs0 hncc hnss
  have HKR := Keep.mk (fun w => kept_v radius 1024 w)
  have HKS := Keep.mk (fun w => kept_v sho 32 w)
  have hkr := kpZ_in radius 1024 (by decide)
  have hks := kpZ_in sho 32 (by decide)
  have HRS : Keep (65536 * kpZ radius 1024 = 65536 * kpZ radius 1024) := ⟨rfl⟩
  obtain ⟨kr, hkr'⟩ : ∃ k, kpZ radius 1024 = k := ⟨_, rfl⟩
  obtain ⟨sh, hsh'⟩ : ∃ k, kpZ sho 32 = k := ⟨_, rfl⟩
  obtain ⟨r, hr⟩ : ∃ r, 65536 * kr = r := ⟨_, rfl⟩
  have HR : Keep (65536 * kpZ radius 1024 = r ∧ kpZ sho 32 = sh ∧ 0 ≤ r ∧ r ≤ 67108864) := ⟨by rw [hkr', hr, hsh']; rw [hkr'] at hkr; refine ⟨rfl, rfl, ?_, ?_⟩ <;> omega⟩
  rw [hkr'] at HKR hkr
  rw [hsh'] at HKS
  have hmul : IntKind.i64.wrap (65536 * kr) = r := by rw [IntKind.wrap_i64]; omega
  clear hnc hns hb oc os hkr hks HRS hkr' hsh' hr
  have S1 := (Sep.nil W).newBox #[.int .u64 tick, .slice ac nc cc, .slice az ns cs, iv nx] 37
  obtain ⟨bs, hbs⟩ : ∃ b, W.heap.size = b := ⟨_, rfl⟩
  obtain ⟨W1, hW1⟩ : ∃ w, W.alloc (.cells #[.int .u64 tick, .slice ac nc cc, .slice az ns cs, iv nx] 37) = w := ⟨_, rfl⟩
  rw [hbs, hW1] at S1
  have HB : Keep (Sep W W1 [boxA bs [.int .u64 tick, .slice ac nc cc, .slice az ns cs, iv nx] 37]) := ⟨S1⟩
  clear S1
  go_enter Tryz.func31, Tryz.ntmps31
  go_wp2_with fail
  clear hbs hW1
  refine region_Y (S := fun w' => Sep W w' [boxA bs [.int .u64 tick, .slice ac nc cc, .slice az ns cs, iv nx] 37]) [] (by kernel_rfl) ?_
  obtain ⟨W0, hW0⟩ : ∃ W_, W1.drew = W_ := ⟨_, rfl⟩
  replace HB := Keep.mk (HB.out.grown (gr_drew _ none))
  rw [hW0] at HB ⊢
  clear hW0
  have hHeld : (fun w' => Sep W w' [boxA bs [.int .u64 tick, .slice ac nc cc, .slice az ns cs, iv nx] 37]) W0 := HB.out
  refine yp (i := 0) (v := ?_) rfl (Or.inl ⟨by rfl, ?_⟩) ?_
  rotate_left
  · (intro w hSw; go_simp; first | done | (with_reducible rfl))
  simp only [Act.put, A1, A3, A4, A5, A6]
  refine yt (i := 1) (v := ?_) rfl (Or.inl ⟨by rfl, ?_⟩) (by assumption) ?_
  rotate_left
  · (intro w hSw; have q := (hSw.boxGet k0m).cellv 0 _ rfl; go_simp; first | done | (with_reducible rfl))
  simp only [Act.put, A1, A2, A3, A4, A5, A6]
  refine yp (i := 2) (v := ?_) rfl (Or.inl ⟨by rfl, ?_⟩) ?_
  rotate_left
  · (intro w hSw; go_simp; first | done | (with_reducible rfl))
  simp only [Act.put, A1, A2, A3, A4, A5, A6]
  refine yp (i := 5) (v := ?_) rfl (Or.inl ⟨by rfl, ?_⟩) ?_
  rotate_left
  · (intro w hSw; go_simp; first | done | (with_reducible rfl))
  simp only [Act.put, A1, A2, A3, A4, A5, A6]
  refine yp (i := 7) (v := ?_) rfl (Or.inl ⟨by rfl, ?_⟩) ?_
  rotate_left
  · (intro w hSw; go_simp; first | done | (with_reducible rfl))
  simp only [Act.put, A1, A2, A3, A4, A5, A6]
  refine yt (i := 8) (v := ?_) rfl (Or.inl ⟨by rfl, ?_⟩) (by assumption) ?_
  rotate_left
  · (intro w hSw; have q := (hSw.boxGet k0m).cellv 1 _ rfl; go_simp; first | done | (with_reducible rfl))
  simp only [Act.put, A1, A2, A3, A4, A5, A6]
  refine wpAnyY_one (i := 3) (by kernel_rfl) rfl (fun K hK => ?_)
  go_simp
  refine (HKR.out _).mono ?_
  rintro e wk ⟨rfl, hw⟩
  rw [hw]
  clear hw wk
  refine hK.out _ _ (fun h => h) ?_
  clear hK K
  refine yt (i := 4) (v := ?_) rfl (Or.inl ⟨by rfl, ?_⟩) (by assumption) ?_
  rotate_left
  · (intro w hSw; have q := hmul; go_simp; first | done | (with_reducible rfl))
  simp only [Act.put, A1, A2, A3, A4, A5, A6]
  refine wpAnyY_one (i := 6) (by kernel_rfl) rfl (fun K hK => ?_)
  go_simp
  refine (HKS.out _).mono ?_
  rintro e wk ⟨rfl, hw⟩
  rw [hw]
  clear hw wk
  refine hK.out _ _ (fun h => h) ?_
  clear hK K
  refine wpAnyY_one (i := 9) (by kernel_rfl) rfl (fun K hK => ?_)
  go_simp
  refine (firC W _ _ _ LC HLC.out.1 (HLC.out.2.kept HB.out.g) HB.out).mono ?_
  rintro e wf ⟨v2, rfl, q2⟩
  obtain ⟨C, f1, f2, S2⟩ := q2.o
  obtain ⟨aC, cC, rfl⟩ := own_slice (S2.rowGet k0m)
  obtain ⟨n, hn⟩ : ∃ n, C.length = n := ⟨_, rfl⟩
  have HCN := Keep.mk hn
  have HF1 := Keep.mk (And.intro f1 f2)
  have HB2 : Keep (Sep W wf [rowV 26 14 (.slice aC n cC) n (fl crv C), boxA bs [.int .u64 tick, .slice ac nc cc, .slice az ns cs, iv nx] 37]) := ⟨by rw [hn] at S2; exact S2⟩
  rw [hn]
  refine hK.out _ _ (fun _ => HB2.out.tail) ?_
  clear hK K S2 f1 f2 hn q2 HB hHeld
  refine yp (i := 10) (v := .agg #[.int .u64 tick, iv r, iv sh, .slice aC n cC, .slice none 0 0, .pointer none]) rfl (yieldsIf_build (by rfl) 80 _ rfl _ ?_) ?_
  · refine (congrArg (Tryz.prog.built 80) ?_).trans (built80 tick aC n cC r sh)
    simp only [List.map_toArray, List.map_cons, List.map_nil]
    rfl
  simp only [Act.put, A1, A2, A3, A4, A5, A6]
  refine wpAnyY_one (i := 11) (by kernel_rfl) rfl (fun K hK => ?_)
  have S3 := HB2.out.newBox #[.int .u64 tick, iv r, iv sh, .slice aC n cC, .slice none 0 0, .pointer none] 80
  obtain ⟨wb, hwb⟩ : ∃ w, wf.alloc (.cells #[.int .u64 tick, iv r, iv sh, .slice aC n cC, .slice none 0 0, .pointer none] 80) = w := ⟨_, rfl⟩
  obtain ⟨sb, hsb⟩ : ∃ b, wf.heap.size = b := ⟨_, rfl⟩
  rw [hwb, hsb] at S3
  have HB3 : Keep (Sep W wb [boxA sb [.int .u64 tick, iv r, iv sh, .slice aC n cC, .slice none 0 0, .pointer none] 80, rowV 26 14 (.slice aC n cC) n (fl crv C), boxA bs [.int .u64 tick, .slice ac nc cc, .slice az ns cs, iv nx] 37]) := ⟨S3⟩
  go_simp
  refine hK.out _ _ (fun _ => HB3.out.tail.tail) ?_
  clear hK K S3 hwb hsb HB2
  refine wpAnyY_one (i := 12) (by kernel_rfl) rfl (fun K hK => ?_)
  go_simp
  refine hK.out _ _ (fun h => h) ?_
  clear hK K
  refine wpAnyY_done (by kernel_rfl) ?_ _
  obtain ⟨sd, hsd⟩ : ∃ sd, max 65536 r = sd := ⟨_, rfl⟩
  have HSD : Keep (1 ≤ sd ∧ sd ≤ 1099511627776) := ⟨by have := HR.out; omega⟩
  have m1 : ∀ (ts : Array TypeId) (t : TypeId) (W : World), (Builtin.max_ ts t #[.int .i64 65536, .int .i64 r]).run Tryz.prog W = .ok (.int .i64 sd) W := fun ts t W => by
    rw [run_max_int2]
    congr 2
    split <;> omega
  clear hsd hmul
  have c1 := (HB3.out.boxGet k0m).cellv 1 _ rfl
  go_wp2_with fail
  refine (new_c W wb _ sd HSD.out HB3.out).mono ?_
  rintro e w4 ⟨gb, rfl, S4⟩
  have c5 := (S4.boxGet k1m).cellv 5 _ rfl
  have y5 := (S4.boxGet k1m).frozen 5
  have S5 := S4.swap.boxPut 5 (pt gb)
  obtain ⟨w5, hw5⟩ : ∃ w, w4.setCell ⟨sb, 5, none⟩ (pt gb) = w := ⟨_, rfl⟩
  rw [hw5] at S5
  have HB5 : Keep (Sep W w5 (boxA sb [.int .u64 tick, iv r, iv sh, .slice aC n cC, .slice none 0 0, pt gb] 80 :: rowV 33 5 (.slice none 0 0) 0 (fl snv ([])) :: gridA gb sd (plM ([])) :: rowV 26 14 (.slice aC n cC) n (fl crv C) :: [boxA bs [.int .u64 tick, .slice ac nc cc, .slice az ns cs, iv nx] 37])) := ⟨by
    have q : Sep W w5 (boxA sb [.int .u64 tick, iv r, iv sh, .slice aC n cC, .slice none 0 0, pt gb] 80 :: gridA gb sd [] :: rowV 26 14 (.slice aC n cC) n (fl crv C) :: [boxA bs [.int .u64 tick, .slice ac nc cc, .slice az ns cs, iv nx] 37]) := S5
    exact (q.nilV 33 5).swap⟩
  have c3 := (HB5.out.boxGet k0m).cellv 3 _ rfl
  clear S4 S5 c1
  obtain ⟨du, hdu⟩ := under26
  go_wp2_with fail
  clear c3 c5 y5 hw5
  go_loopw [41] (fun u41 wr => ∃ (i m cT : Nat) (aT : Option Addr), i ≤ n ∧ u41 = iv i ∧ Keep ((seenC (C.take i)).length = m) ∧ Keep (Sep W wr (boxA sb [.int .u64 tick, iv r, iv sh, .slice aC n cC, .slice aT m cT, pt gb] 80 :: rowV 33 5 (.slice aT m cT) m (fl snv (seenC (C.take i))) :: gridA gb sd (plM (seenC (C.take i))) :: rowV 26 14 (.slice aC n cC) n (fl crv C) :: [boxA bs [.int .u64 tick, .slice ac nc cc, .slice az ns cs, iv nx] 37]))) (fun u41 _ => (n - intOf u41).toNat)
  case atStart => exact ⟨0, 0, 0, none, by omega, rfl, ⟨rfl⟩, HB5⟩
  case round =>
    clear HB5
    obtain ⟨i, m, cT, aT, hi, rfl, HM, HB⟩ := hrel
    by_cases hlt : i < n
    · have hlt1 : (i : Int) < (n : Int) := by omega
      have hi0 : (0 : Int) ≤ (i : Int) := by omega
      have hit : ((i : Nat) : Int).toNat = i := by omega
      have hnn : n ≤ 281474976710656 := by have := HF1.out.2; have := HLC.out.1; have := HCN.out; omega
      have hiw : IntKind.i64.wrap ((i : Int) + 1) = ((i + 1 : Nat) : Int) := by rw [IntKind.wrap_i64]; omega
      obtain ⟨c, hc⟩ : ∃ c, C[i]? = some c := ⟨_, List.getElem?_eq_getElem (by rw [HCN.out]; exact hlt)⟩
      obtain ⟨gC, rfl⟩ : ∃ g, aC = some ⟨g, 0, none⟩ := by
        obtain ⟨g, c', e, _⟩ := own_any (HB.out.rowGet k3m) (by omega)
        injection e with e1 _ _
        exact ⟨g, e1⟩
      have HRG : Keep (wr.rangeAt gC (i * 14) (crv c)) := ⟨fl_range crv_len (HB.out.rowGet k3m) (by omega) i c hc⟩
      have HCO : Keep (CrOk c) := ⟨HOC.out c (by
        have q := (HF1.out.1.2 c).1 (List.mem_of_getElem? hc)
        exact List.mem_of_find?_eq_some q)⟩
      have HTK : Keep (C.take (i + 1) = C.take i ++ [c]) := ⟨by rw [List.take_add_one, hc]; rfl⟩
      have HML : Keep (m ≤ i ∧ i < n) := ⟨⟨by rw [← HM.out]; exact Nat.le_trans (seenC_len _) (by rw [List.length_take]; omega), hlt⟩⟩
      have HON : Keep (∀ v ∈ crv c, v.oneCell' = true) := ⟨crv_one c⟩
      clear hc hlt hi hnn
      go_wp2_with (first
        | (show wpList _ _ _ ({ dst := _, op := Op.load 26 _, type := _, pos := _, after := _, guard := _ } :: _) _ _
           refine wpList_load_mid rfl 26 _ rfl _ _ rfl _ _ HRG.out hdu.1 hdu.2 info26 ?_)
        | (show wpList _ _ _ ({ dst := _, op := Op.store 26 _ _, type := _, pos := _, after := _, guard := _ } :: _) _ _
           refine store_new wr (crv c) 26 rfl rfl rfl rfl rfl info26 HON.out ?_))
      intro w6 hS6 g6
      obtain ⟨cb, hcb⟩ : ∃ b, wr.heap.size = b := ⟨_, rfl⟩
      have S6 := hS6 _ _ HB.out
      rw [hcb] at S6 ⊢
      have HL : Keep (Sep W w6 (boxA sb [.int .u64 tick, iv r, iv sh, sl gC n cC, .slice aT m cT, pt gb] 80 :: rowV 33 5 (.slice aT m cT) m (fl snv (seenC (C.take i))) :: gridA gb sd (plM (seenC (C.take i))) :: boxA cb (crv c) 26 :: rowV 26 14 (sl gC n cC) n (fl crv C) :: [boxA bs [.int .u64 tick, .slice ac nc cc, .slice az ns cs, iv nx] 37])) := ⟨bk1 [_, _, _] S6⟩
      have d11 := (S6.boxGet k0m).cellv 11 _ rfl
      have d0 := (S6.boxGet k0m).cellv 0 _ rfl
      have d2 := (S6.boxGet k0m).cellv 2 _ rfl
      have d3 := (S6.boxGet k0m).cellv 3 _ rfl
      have d6 := (S6.boxGet k0m).cellv 6 _ rfl
      clear hS6 g6 S6 HB hcb HRG
      by_cases hwa : c.wa ≤ 0
      · have HSN : Keep (seenC (C.take (i + 1)) = seenC (C.take i) ++ [carS c]) := ⟨by rw [HTK.out, seenC_app, if_pos hwa]⟩
        have HLB : Keep (((seenC (C.take i)).length + 1) * 40 ≤ 140737488355328) := ⟨by
          have h4 := HF1.out.2
          rw [HCN.out] at h4
          rw [HM.out]
          exact Nat.le_trans (Nat.mul_le_mul_right 40 (Nat.succ_le_succ (Nat.le_trans (Nat.le_of_lt (Nat.lt_of_le_of_lt HML.out.1 HML.out.2)) (Nat.le_trans h4 (Nat.le_add_right _ _))))) HBD.out⟩
        go_wp2_with (first
          | (show wpList _ _ _ ({ dst := _, op := Op.build 33 _, type := _, pos := _, after := _, guard := _ } :: _) _ _
             refine wpList_build rfl 33 _ rfl #[iv 1, iv c.pl, iv c.x, iv c.y, iv c.hd] ((congrArg (Tryz.prog.built 33) (by simp only [List.map_toArray, List.map_cons, List.map_nil]; rfl)).trans (built33 c.pl c.x c.y c.hd)) ?_))
        refine (lay_c W w6 _ sb gb (.int .u64 tick) (sl gC n cC) (.slice aT m cT) r sh sd (plM (seenC (C.take i))) (seenC (C.take i)) (carS c) ⟨HCO.out.x, HCO.out.y⟩ HLB.out (by rw [plF_len]; exact Nat.le_refl _) (by rw [HM.out]; exact HL.out)).mono ?_
        rintro e w8 ⟨rfl, vt', S8⟩
        rw [put_plM] at S8
        obtain ⟨aT', cT', rfl⟩ := own_slice (S8.rowGet k1m)
        obtain ⟨m', hm'⟩ : ∃ q, (seenC (C.take i) ++ [(carS c)]).length = q := ⟨_, rfl⟩
        rw [hm'] at S8
        have HE : Keep (Sep W w8 (boxA sb [.int .u64 tick, iv r, iv sh, sl gC n cC, .slice aT' m' cT', pt gb] 80 :: rowV 33 5 (.slice aT' m' cT') m' (fl snv (seenC (C.take (i + 1)))) :: gridA gb sd (plM (seenC (C.take (i + 1)))) :: rowV 26 14 (sl gC n cC) n (fl crv C) :: [boxA bs [.int .u64 tick, .slice ac nc cc, .slice az ns cs, iv nx] 37])) := ⟨by
          rw [HSN.out]
          exact Sep.dropM [_, _, _] [_] S8⟩
        have HM2 : Keep ((seenC (C.take (i + 1))).length = m') := ⟨by rw [HSN.out]; exact hm'⟩
        clear S8 HL d0 d2 d3 d6 d11 hm'
        go_wp2_with fail
        go_roundw
        case rel => exact ⟨i + 1, m', cT', aT', HML.out.2, rfl, HM2, HE⟩
        case measure => simp [intOf]; have := HML.out; omega
      · have HSN : Keep (seenC (C.take (i + 1)) = seenC (C.take i)) := ⟨by rw [HTK.out, seenC_app, if_neg hwa]⟩
        have HE : Keep (Sep W w6 (boxA sb [.int .u64 tick, iv r, iv sh, sl gC n cC, .slice aT m cT, pt gb] 80 :: rowV 33 5 (.slice aT m cT) m (fl snv (seenC (C.take (i + 1)))) :: gridA gb sd (plM (seenC (C.take (i + 1)))) :: rowV 26 14 (sl gC n cC) n (fl crv C) :: [boxA bs [.int .u64 tick, .slice ac nc cc, .slice az ns cs, iv nx] 37])) := ⟨by
          rw [HSN.out]
          exact Sep.dropM [_, _, _] [_] HL.out⟩
        have HM2 : Keep ((seenC (C.take (i + 1))).length = m) := ⟨by rw [HSN.out]; exact HM.out⟩
        clear HL d0 d2 d3 d6
        go_wp2_with fail
        go_roundw
        case rel => exact ⟨i + 1, m, cT, aT, HML.out.2, rfl, HM2, HE⟩
        case measure => simp [intOf]; have := HML.out; omega
    · have hlt1 : ¬ (i : Int) < (n : Int) := by omega
      have HB6 : Keep (Sep W wr (boxA sb [.int .u64 tick, iv r, iv sh, .slice aC n cC, .slice aT m cT, pt gb] 80 :: rowV 33 5 (.slice aT m cT) m (fl snv (seenC C)) :: gridA gb sd (plM (seenC C)) :: rowV 26 14 (.slice aC n cC) n (fl crv C) :: [boxA bs [.int .u64 tick, .slice ac nc cc, .slice az ns cs, iv nx] 37])) := ⟨by
        have q := HB.out
        rw [show C.take i = C by rw [show i = C.length by rw [HCN.out]; omega, List.take_length]] at q
        exact q⟩
      have HM6 : Keep ((seenC C).length = m) := ⟨by
        have q := HM.out
        rw [show C.take i = C by rw [show i = C.length by rw [HCN.out]; omega, List.take_length]] at q
        exact q⟩
      have e2 := (HB6.out.boxGet k4m).cellv 2 _ rfl
      clear HB HM hlt hi
      go_wp2_with fail
      refine (firS W wr _ _ LS HLS.out.1 (HLS.out.2.kept HB6.out.g) HB6.out).mono ?_
      rintro e wf2 ⟨v3, rfl, q3⟩
      obtain ⟨S, f1, f2, S3⟩ := q3.o
      obtain ⟨aS, cS, rfl⟩ := own_slice (S3.rowGet k0m)
      obtain ⟨n2, hn2⟩ : ∃ n, S.length = n := ⟨_, rfl⟩
      have HSN := Keep.mk hn2
      have HF2 := Keep.mk (And.intro f1 f2)
      have HB7 : Keep (Sep W wf2 (boxA sb [.int .u64 tick, iv r, iv sh, .slice aC n cC, .slice aT m cT, pt gb] 80 :: rowV 33 5 (.slice aT m cT) m (fl snv (seenC C ++ (S.take 0).map shoS)) :: gridA gb sd (plM (seenC C ++ (S.take 0).map shoS)) :: rowV 46 7 (.slice aS n2 cS) n2 (fl shv S) :: rowV 26 14 (.slice aC n cC) n (fl crv C) :: [boxA bs [.int .u64 tick, .slice ac nc cc, .slice az ns cs, iv nx] 37])) := ⟨by
        rw [hn2] at S3
        rw [List.take_zero, List.map_nil, List.append_nil]
        exact bk1 [_, _, _] S3⟩
      have HM7 : Keep ((seenC C ++ (S.take 0).map shoS).length = m) := ⟨by rw [List.take_zero, List.map_nil, List.append_nil]; exact HM6.out⟩
      rw [hn2]
      clear S3 q3 f1 f2 hn2 HB6 HM6 e2
      obtain ⟨du2, hdu2⟩ := under46
      as_aux_lemma =>
        go_wp2_with fail
        go_loopw [62] (fun u62 wr => ∃ (i m cT : Nat) (aT : Option Addr), i ≤ n2 ∧ u62 = iv i ∧ Keep ((seenC C ++ (S.take i).map shoS).length = m) ∧ Keep (Sep W wr (boxA sb [.int .u64 tick, iv r, iv sh, .slice aC n cC, .slice aT m cT, pt gb] 80 :: rowV 33 5 (.slice aT m cT) m (fl snv (seenC C ++ (S.take i).map shoS)) :: gridA gb sd (plM (seenC C ++ (S.take i).map shoS)) :: rowV 46 7 (.slice aS n2 cS) n2 (fl shv S) :: rowV 26 14 (.slice aC n cC) n (fl crv C) :: [boxA bs [.int .u64 tick, .slice ac nc cc, .slice az ns cs, iv nx] 37]))) (fun u62 _ => (n2 - intOf u62).toNat)
        case atStart => exact ⟨0, m, cT, aT, by omega, rfl, HM7, HB7⟩
        case round =>
          clear HB7 HM7
          obtain ⟨i, m, cT, aT, hi, rfl, HM, HB⟩ := hrel
          by_cases hlt : i < n2
          · have hlt1 : (i : Int) < (n2 : Int) := by omega
            have hi0 : (0 : Int) ≤ (i : Int) := by omega
            have hit : ((i : Nat) : Int).toNat = i := by omega
            have hnn : n2 ≤ 281474976710656 := by have := HF2.out.2; have := HLS.out.1; have := HSN.out; omega
            have hiw : IntKind.i64.wrap ((i : Int) + 1) = ((i + 1 : Nat) : Int) := by rw [IntKind.wrap_i64]; omega
            obtain ⟨c, hc⟩ : ∃ c, S[i]? = some c := ⟨_, List.getElem?_eq_getElem (by rw [HSN.out]; exact hlt)⟩
            obtain ⟨gS, rfl⟩ : ∃ g, aS = some ⟨g, 0, none⟩ := by
              obtain ⟨g, c', e, _⟩ := own_any (HB.out.rowGet k3m) (by omega)
              injection e with e1 _ _
              exact ⟨g, e1⟩
            have HRG : Keep (wr.rangeAt gS (i * 7) (shv c)) := ⟨fl_range shv_len (HB.out.rowGet k3m) (by omega) i c hc⟩
            have HCO : Keep (ShOk c) := ⟨HOS.out c (by
              have q := (HF2.out.1.2 c).1 (List.mem_of_getElem? hc)
              exact List.mem_of_find?_eq_some q)⟩
            have HTK : Keep (seenC C ++ (S.take (i + 1)).map shoS = seenC C ++ (S.take i).map shoS ++ [shoS c]) := ⟨by rw [List.take_add_one, hc, List.append_assoc]; simp⟩
            have HML : Keep (m ≤ C.length + i ∧ i < n2) := ⟨⟨by rw [← HM.out, List.length_append, List.length_map, List.length_take]; exact Nat.add_le_add (seenC_len C) (Nat.min_le_left _ _), hlt⟩⟩
            have HON : Keep (∀ v ∈ shv c, v.oneCell' = true) := ⟨shv_one c⟩
            have HLB : Keep (((seenC C ++ (S.take i).map shoS).length + 1) * 40 ≤ 140737488355328) := ⟨by
              have h4 := HF1.out.2
              have h5 := HF2.out.2
              rw [HSN.out] at h5
              rw [HM.out]
              exact Nat.le_trans (Nat.mul_le_mul_right 40 (Nat.succ_le_succ (Nat.le_trans HML.out.1 (Nat.add_le_add h4 (Nat.le_trans (Nat.le_of_lt HML.out.2) h5))))) HBD.out⟩
            clear hc hlt hi hnn
            go_wp2_with (first
              | (show wpList _ _ _ ({ dst := _, op := Op.load 46 _, type := _, pos := _, after := _, guard := _ } :: _) _ _
                 refine wpList_load_mid rfl 46 _ rfl _ _ rfl _ _ HRG.out hdu2.1 hdu2.2 info46 ?_)
              | (show wpList _ _ _ ({ dst := _, op := Op.store 46 _ _, type := _, pos := _, after := _, guard := _ } :: _) _ _
                 refine store_new wr (shv c) 46 rfl rfl rfl rfl rfl info46 HON.out ?_))
            intro w6 hS6 g6
            obtain ⟨cb, hcb⟩ : ∃ b, wr.heap.size = b := ⟨_, rfl⟩
            have S6 := hS6 _ _ HB.out
            rw [hcb] at S6 ⊢
            have HL : Keep (Sep W w6 (boxA sb [.int .u64 tick, iv r, iv sh, .slice aC n cC, .slice aT m cT, pt gb] 80 :: rowV 33 5 (.slice aT m cT) m (fl snv (seenC C ++ (S.take i).map shoS)) :: gridA gb sd (plM (seenC C ++ (S.take i).map shoS)) :: boxA cb (shv c) 46 :: rowV 46 7 (sl gS n2 cS) n2 (fl shv S) :: rowV 26 14 (.slice aC n cC) n (fl crv C) :: [boxA bs [.int .u64 tick, .slice ac nc cc, .slice az ns cs, iv nx] 37])) := ⟨bk1 [_, _, _] S6⟩
            have d0 := (S6.boxGet k0m).cellv 0 _ rfl
            have d2 := (S6.boxGet k0m).cellv 2 _ rfl
            have d3 := (S6.boxGet k0m).cellv 3 _ rfl
            clear hS6 g6 S6 HB hcb HRG
            go_wp2_with (first
              | (show wpList _ _ _ ({ dst := _, op := Op.build 33 _, type := _, pos := _, after := _, guard := _ } :: _) _ _
                 refine wpList_build rfl 33 _ rfl #[iv 2, iv c.id, iv c.x, iv c.y, iv 0] ((congrArg (Tryz.prog.built 33) (by simp only [List.map_toArray, List.map_cons, List.map_nil]; rfl)).trans (built33s c.id c.x c.y)) ?_))
            refine (lay_c W w6 _ sb gb (.int .u64 tick) (.slice aC n cC) (.slice aT m cT) r sh sd (plM (seenC C ++ (S.take i).map shoS)) (seenC C ++ (S.take i).map shoS) (shoS c) ⟨HCO.out.x, HCO.out.y⟩ HLB.out (by rw [plF_len]; exact Nat.le_refl _) (by rw [HM.out]; exact HL.out)).mono ?_
            rintro e w8 ⟨rfl, vt', S8⟩
            rw [put_plM] at S8
            obtain ⟨aT', cT', rfl⟩ := own_slice (S8.rowGet k1m)
            obtain ⟨m', hm'⟩ : ∃ q, (seenC C ++ (S.take i).map shoS ++ [(shoS c)]).length = q := ⟨_, rfl⟩
            rw [hm'] at S8
            have HE : Keep (Sep W w8 (boxA sb [.int .u64 tick, iv r, iv sh, .slice aC n cC, .slice aT' m' cT', pt gb] 80 :: rowV 33 5 (.slice aT' m' cT') m' (fl snv (seenC C ++ (S.take (i + 1)).map shoS)) :: gridA gb sd (plM (seenC C ++ (S.take (i + 1)).map shoS)) :: rowV 46 7 (sl gS n2 cS) n2 (fl shv S) :: rowV 26 14 (.slice aC n cC) n (fl crv C) :: [boxA bs [.int .u64 tick, .slice ac nc cc, .slice az ns cs, iv nx] 37])) := ⟨by
              rw [HTK.out]
              exact Sep.dropM [_, _, _] [_] S8⟩
            have HM2 : Keep ((seenC C ++ (S.take (i + 1)).map shoS).length = m') := ⟨by rw [HTK.out]; exact hm'⟩
            clear S8 HL d0 d2 d3 hm'
            go_wp2_with fail
            go_roundw
            case rel => exact ⟨i + 1, m', cT', aT', HML.out.2, rfl, HM2, HE⟩
            case measure => simp [intOf]; have := HML.out; omega
          · have hlt1 : ¬ (i : Int) < (n2 : Int) := by omega
            have HE : Keep (ScR W wr tick LC LS radius sho sb) := ⟨⟨by
              have q := HB.out
              rw [show S.take i = S by rw [show i = S.length by rw [HSN.out]; omega, List.take_length]] at q
              have hm := HM.out
              rw [show S.take i = S by rw [show i = S.length by rw [HSN.out]; omega, List.take_length]] at hm
              refine ⟨C, S, .slice aC n cC, .slice aT m cT, gb, sd, HF1.out.1, HF2.out.1, HF1.out.2, HF2.out.2, ?_⟩
              rw [HR.out.1, HR.out.2.1, hm, HCN.out]
              have q2 := Sep.dropM [_, _, _] [_] q
              exact Sep.dropM (l := []) [_, _, _, _] [_] q2⟩⟩
            clear HB HM hlt hi
            go_wp2_with fail
            go_ret
            exact ⟨sb, rfl, HE.out⟩
end Go.Proofs.YtgedlabmndlooaaGreat
