/- view: what is seen from a car -/
import Derived.Test.YtgedlabmndlooaaGreatE4
namespace Go.Proofs.YtgedlabmndlooaaGreat
open Go Go.RowKit Go.Maps Go.Shelf Go.Lib Go.Sort
attribute [local go_sem] Oper.semAt_some

/-- all but the own car -/
def fil (pl : Int) (L : List Sn) : List Sn := L.filter (fun s => !(decide (s.kd = 1) && decide (s.id = pl)))
theorem fil_app (pl : Int) (L : List Sn) (x : Sn) : fil pl (L ++ [x]) = if x.kd = 1 ∧ x.id = pl then fil pl L else fil pl L ++ [x] := by
  unfold fil
  rw [List.filter_append]
  by_cases h : x.kd = 1 ∧ x.id = pl
  · rw [if_pos h]; simp [h.1, h.2]
  · rw [if_neg h]
    by_cases h1 : x.kd = 1
    · have h2 : ¬ x.id = pl := fun e => h ⟨h1, e⟩
      simp [h2]
    · simp [h1]
theorem fil_pre {pl : Int} {A B : List Sn} (h : A <+: B) : fil pl A <+: fil pl B := by
  obtain ⟨C, rfl⟩ := h
  unfold fil
  rw [List.filter_append]
  exact List.prefix_append _ _
theorem fil_len (pl : Int) (L : List Sn) : (fil pl L).length ≤ L.length := List.length_filter_le _ _
theorem Has.mid2 {W : World} {b : Nat} {cs : List Value} {t : TypeId} (h : Has W b cs t) (o : Nat) {u v : Value} (h1 : cs[o]? = some u) (h2 : cs[o + 1]? = some v) : W.rangeAt b o [u, v] := fun j x hx => by
  match j, hx with
  | 0, hx => cases hx; exact h.cellv o _ h1
  | 1, hx => cases hx; exact h.cellv (o + 1) _ h2
theorem store_newIn {F : Fence} {n : Nat} {ops : Array Oper} {rest : List Oper} {op : Oper} {a : Act} {Q : Exit → Act → World → Prop} (w3 : World) (cs : List Value) (T : TypeId) {A : Array Value} (hgd : op.guard = none) {x y : Operand} (ho : op.op = .store T x y)
    (hx : a.eval x = .pointer (some ⟨w3.heap.size, 0, none⟩)) (hy : a.eval y = .agg cs.toArray) (hA : A.size = cs.length) (hi : (Tryz.prog.info? T).map (·.size) = some cs.length) (h1 : ∀ v ∈ cs, v.oneCell' = true)
    (h : ∀ w6, (∀ w0 l, Sep w0 w3 l → Sep w0 w6 (boxA w3.heap.size cs T :: l)) → w3.grownBy w6 none → wpListIn F n Tryz.prog ops Q rest (a.put op.dst undef) w6) : wpListIn F n Tryz.prog ops Q (op :: rest) a (w3.alloc (.cells A T)) := by
  have e : A.toList.length = cs.length := by rw [Array.length_toList]; exact hA
  have hn := Has.newA w3 A T
  have hg : w3.grownBy ((w3.alloc (.cells A T)).setCells w3.heap.size 0 cs.toArray.toList) none := gr_new (World.grownBy_alloc _ _ _) (gr_sets _ _ _ _) (Nat.le_refl _)
  refine wpListIn_store_mid hgd T x y ho w3.heap.size 0 cs.toArray hx hy (hn.there 0 cs.toArray.size (by rw [e, List.size_toArray]; omega)) (by rw [List.size_toArray]; exact hi) (all_oneCell_toArray h1) ?_
  refine h _ (fun w0 l hS => hS.new hg (Loc.one (a := boxA _ _ _) _ ⟨hn.setAll cs e.symm, rfl⟩ (fun i hi => .inr (by rw [hi]; exact Nat.le_refl _)))) hg
/-- what is told -/
structure SeR (w0 W : World) (l : List As) (L : List Sn) (own : Cr) (r sh : Int) (v : Value) : Prop where
  o : ∃ T : List Sn, T.Perm ((fil own.pl (nsS L own.x own.y r (sh + 1))).take sh.toNat) ∧ T.Pairwise (fun a b => ltOf cfS b a = false) ∧ Sep w0 W (rowV 33 5 v T.length (fl snv T) :: l)
set_option maxRecDepth 100000 in
set_option maxHeartbeats 16000000 in
theorem seen_c (w0 W : World) (l : List As) (sb gb : Nat) (tk vC vT : Value) (r sh sd : Int) (L : List Sn) (own : Cr) (ho : CrOk own) (hsh : 0 ≤ sh ∧ sh ≤ 32) (hl : L.length * 24 + 24 ≤ 140737488355328) (h : Sep w0 W (boxA sb [tk, iv r, iv sh, vC, vT, pt gb] 80 :: rowV 33 5 vT L.length (fl snv L) :: gridA gb sd (plM L) :: l)) :
    Calls Tryz.prog 50 #[pt sb, vlC own] W fun e W' => ∃ v, e = .returned v ∧ SeR w0 W' (boxA sb [tk, iv r, iv sh, vC, vT, pt gb] 80 :: rowV 33 5 vT L.length (fl snv L) :: gridA gb sd (plM L) :: l) L own r sh v := by
  have S1 := ((h.newBox #[pt sb] 72).newBox #[iv own.pl, .string own.nm, iv own.x, iv own.y, iv own.sx, iv own.sy, iv own.hd, iv own.he, iv own.en, iv own.am, iv own.co, iv own.wa, iv own.sp, iv own.sc] 26).newBox #[.slice none 0 0] 27
  simp only [World.size_alloc] at S1
  obtain ⟨pb, hpb⟩ : ∃ b, W.heap.size = b := ⟨_, rfl⟩
  obtain ⟨cb, hcb⟩ : ∃ b, pb + 1 = b := ⟨_, rfl⟩
  obtain ⟨tb, htb⟩ : ∃ b, cb + 1 = b := ⟨_, rfl⟩
  obtain ⟨W1, hW1⟩ : ∃ w, ((W.alloc (.cells #[pt sb] 72)).alloc (.cells #[iv own.pl, .string own.nm, iv own.x, iv own.y, iv own.sx, iv own.sy, iv own.hd, iv own.he, iv own.en, iv own.am, iv own.co, iv own.wa, iv own.sp, iv own.sc] 26)).alloc (.cells #[.slice none 0 0] 27) = w := ⟨_, rfl⟩
  rw [hW1, hpb, hcb, htb] at S1
  have HB : Keep (Sep w0 W1 (boxA tb [.slice none 0 0] 27 :: boxA cb (crv own) 26 :: boxA pb [pt sb] 72 :: boxA sb [tk, iv r, iv sh, vC, vT, pt gb] 80 :: rowV 33 5 vT L.length (fl snv L) :: gridA gb sd (plM L) :: l)) := ⟨S1⟩
  have HXY : Keep (I64 own.x ∧ I64 own.y) := ⟨⟨ho.x, ho.y⟩⟩
  have HL := Keep.mk hl
  have HSH := Keep.mk hsh
  have hw1 : IntKind.i64.wrap (sh + 1) = sh + 1 := by rw [IntKind.wrap_i64]; omega
  obtain ⟨dv, hdv⟩ := under24
  obtain ⟨du, hdu⟩ := under33
  clear S1 h ho hl hsh
  refine calls_of_wpN Tryz.func50 rfl ?_
  simp only [Tryz.ntmps50, List.size_toArray, List.length_cons, List.length_nil, Nat.reduceAdd, Nat.reduceSub, Array.replicate_succ, Array.replicate_zero, List.push_toArray, List.append_toArray, List.nil_append, List.cons_append]
  gi_wp2_with fail
  clear hW1 hpb hcb htb
  refine wpIn_wide.2 ?_
  refine region_Y (S := fun w' => Sep w0 w' (boxA tb [.slice none 0 0] 27 :: boxA cb (crv own) 26 :: boxA pb [pt sb] 72 :: boxA sb [tk, iv r, iv sh, vC, vT, pt gb] 80 :: rowV 33 5 vT L.length (fl snv L) :: gridA gb sd (plM L) :: l)) [] (by kernel_rfl) ?_
  obtain ⟨W0, hW0⟩ : ∃ W_, W1.drew = W_ := ⟨_, rfl⟩
  replace HB := Keep.mk (HB.out.grown (gr_drew _ none))
  rw [hW0] at HB ⊢
  clear hW0
  have hHeld : (fun w' => Sep w0 w' (boxA tb [.slice none 0 0] 27 :: boxA cb (crv own) 26 :: boxA pb [pt sb] 72 :: boxA sb [tk, iv r, iv sh, vC, vT, pt gb] 80 :: rowV 33 5 vT L.length (fl snv L) :: gridA gb sd (plM L) :: l)) W0 := HB.out
  refine yt (i := 0) (v := ?_) rfl (Or.inl ⟨by rfl, ?_⟩) (by assumption) ?_
  rotate_left
  · (intro w hSw; have q := (hSw.boxGet k2m).cellv 0 _ rfl; go_simp; first | done | (with_reducible rfl))
  simp only [Act.put, A1, A3, A4, A5, A6]
  refine yp (i := 1) (v := ?_) rfl (Or.inl ⟨by rfl, ?_⟩) ?_
  rotate_left
  · (intro w hSw; go_simp; first | done | (with_reducible rfl))
  simp only [Act.put, A1, A2, A3, A4, A5, A6]
  refine yt (i := 2) (v := .agg ([iv own.x, iv own.y]).toArray) rfl (yieldsIf_load_mid (by rfl) 24 _ rfl _ _ rfl _ _ (fun w hSw => (hSw.boxGet k1m).mid2 2 rfl rfl) hdv.1 hdv.2 info24) (by assumption) ?_
  simp only [Act.put, A1, A2, A3, A4, A5, A6]
  refine yt (i := 3) (v := ?_) rfl (Or.inl ⟨by rfl, ?_⟩) (by assumption) ?_
  rotate_left
  · (intro w hSw; have q := (hSw.boxGet k2m).cellv 0 _ rfl; go_simp; first | done | (with_reducible rfl))
  simp only [Act.put, A1, A2, A3, A4, A5, A6]
  refine yp (i := 4) (v := ?_) rfl (Or.inl ⟨by rfl, ?_⟩) ?_
  rotate_left
  · (intro w hSw; go_simp; first | done | (with_reducible rfl))
  simp only [Act.put, A1, A2, A3, A4, A5, A6]
  refine yp (i := 5) (v := ?_) rfl (Or.inl ⟨by rfl, ?_⟩) ?_
  rotate_left
  · (intro w hSw; go_simp; first | done | (with_reducible rfl))
  simp only [Act.put, A1, A2, A3, A4, A5, A6]
  refine yt (i := 6) (v := ?_) rfl (Or.inl ⟨by rfl, ?_⟩) (by assumption) ?_
  rotate_left
  · (intro w hSw; have q := (hSw.boxGet k3m).cellv 2 _ rfl; go_simp; first | done | (with_reducible rfl))
  simp only [Act.put, A1, A2, A3, A4, A5, A6]
  refine yt (i := 7) (v := ?_) rfl (Or.inl ⟨by rfl, ?_⟩) (by assumption) ?_
  rotate_left
  · (intro w hSw; have q := hw1; go_simp; first | done | (with_reducible rfl))
  simp only [Act.put, A1, A2, A3, A4, A5, A6]
  refine wpAnyY_one (i := 8) (by kernel_rfl) rfl (fun K hK => ?_)
  go_simp
  refine (near_c w0 W0 _ sb own.x own.y (sh + 1) HB.out).mono ?_
  rintro e W2 ⟨b3, b4, b5, rfl, S2⟩
  have HB2 := Keep.mk S2
  refine hK.out _ _ (fun _ => HB2.out.tail.tail.tail) ?_
  clear hK K S2 HB hHeld
  refine wpAnyY_done (by kernel_rfl) ?_ _
  clear hw1
  gi_wp2_with fail
  have H0 : Keep (Sep w0 W2 ((fun pre => exA (fun p : Option Addr × Nat => [pureA ((fil own.pl pre).length ≤ sh.toNat), boxA tb [.slice p.1 (fil own.pl pre).length p.2] 27, rowV 33 5 (.slice p.1 (fil own.pl pre).length p.2) (fil own.pl pre).length (fl snv (fil own.pl pre)), boxA pb [pt sb] 72, boxA cb (crv own) 26] ++ l)) [] :: boxA b3 [pt sb] 72 :: boxA b4 [iv own.x, iv own.y] 24 :: boxA b5 [iv (sh + 1)] 3 :: boxA sb [tk, iv r, iv sh, vC, vT, pt gb] 80 :: rowV 33 5 vT L.length (fl snv L) :: gridA gb sd (plM L) :: [])) := ⟨by
    have q0 : (fil own.pl []).length ≤ sh.toNat := Nat.zero_le _
    have q1 := (fr1 [_, _, _, _, _, _, _, _, _, _] (fr1 [_, _, _, _, _, _, _, _, _, _] (fr1 [_, _, _, _, _, _, _, _, _] (fr1 [_, _, _, _, _, _, _, _, _, _] (fr1 [_, _, _, _, _, _, _, _, _] (fr1 [_, _, _, _, _, _, _] (fr1 [_, _, _, _, _, _, _] (fr1 [_, _, _, _, _, _, _] (fr1 [_, _, _, _, _, _, _, _, _, _] (fr1 [_, _, _, _, _, _, _, _, _, _] (fr1 [_, _, _, _, _, _, _, _, _, _] ((HB2.out.nilV 33 5).know q0))))))))))))
    refine Sep.cls (fun p : Option Addr × Nat => [pureA ((fil own.pl []).length ≤ sh.toNat), boxA tb [.slice p.1 (fil own.pl []).length p.2] 27, rowV 33 5 (.slice p.1 (fil own.pl []).length p.2) (fil own.pl []).length (fl snv (fil own.pl [])), boxA pb [pt sb] 72, boxA cb (crv own) 26] ++ l) (none, 0) ?_
    exact q1.perm (List.Perm.append_left [_, _, _, _, _] (List.perm_append_comm (l₁ := [_, _, _, _, _, _]) (l₂ := l)))⟩
  clear HB2
  refine range_sep (α := Sn) (n := 8) rfl (by decide) (gf := 78) (lb := #[pt b3, pt b4, pt b5]) rfl trivial (enters_of Tryz.func78 (by kernel_rfl) rfl)
    (near_seq 7 (by decide) w0 b3 b4 b5 sb gb tk vC vT r sh own.x own.y (sh + 1) sd L HXY.out.1 HXY.out.2 HL.out) (by exact fun _ => rfl)
    (fun pre => exA (fun p : Option Addr × Nat => [pureA ((fil own.pl pre).length ≤ sh.toNat), boxA tb [.slice p.1 (fil own.pl pre).length p.2] 27, rowV 33 5 (.slice p.1 (fil own.pl pre).length p.2) (fil own.pl pre).length (fl snv (fil own.pl pre)), boxA pb [pt sb] 72, boxA cb (crv own) 26] ++ l))
    (fun c pre => exA (fun p : Option Addr × Nat × List Sn => [pureA (c = .exit 0 ∧ p.2.2 = fil own.pl pre.dropLast ∧ p.2.2.length = sh.toNat), boxA tb [.slice p.1 p.2.2.length p.2.1] 27, rowV 33 5 (.slice p.1 p.2.2.length p.2.1) p.2.2.length (fl snv p.2.2), boxA pb [pt sb] 72, boxA cb (crv own) 26] ++ l))
    H0.out
    (fun pre x a' => exA (fun p : Nat × Option Addr × Nat => [pureA (a' = { tmps := #[pt sb, vlC own, pt pb, pt cb, .slice none 0 0, pt tb, pt p.1, pt sb, .pointer (some ⟨cb, 2, none⟩), .agg #[iv own.x, iv own.y], pt sb, pt sb, .pointer (some ⟨sb, 2, none⟩), iv sh, iv (sh + 1), .func (.func 78) #[] #[pt b3, pt b4, pt b5], .agg (snv x).toArray, undef, undef, undef, undef, undef, undef, undef, undef, undef, undef, undef, undef, undef, undef, undef, undef, undef, undef, undef, undef, undef, undef, undef, undef], defers := [] }), boxA p.1 (snv x) 33] ++ ([pureA ((fil own.pl pre).length ≤ sh.toNat), boxA tb [.slice p.2.1 (fil own.pl pre).length p.2.2] 27, rowV 33 5 (.slice p.2.1 (fil own.pl pre).length p.2.2) (fil own.pl pre).length (fl snv (fil own.pl pre)), boxA pb [pt sb] 72, boxA cb (crv own) 26] ++ l)))
    ?assign ?body ?done ?stop
  case assign =>
    intro lp pre x W KK R hKK hI hR
    obtain ⟨p, hI⟩ := hI.opn
    have HI := Keep.mk hI
    have HO := Keep.mk (snv_one x)
    clear hI
    gi_wp2_with (
      (show wpListIn _ _ _ _ _ ({ dst := _, op := Op.store 33 _ _, type := _, pos := _, after := _, guard := _ } :: _) _ _
       refine store_newIn W (snv x) 33 rfl rfl rfl rfl rfl info33 HO.out ?_))
    intro w6 hS6 g6
    have S6 := hS6 _ _ HI.out
    gi_wp2_with fail
    refine Sep.cls _ (W.heap.size, p.1, p.2) ?_
    exact S6.know rfl
  case body =>
    intro lp pre x a' W KK hKK hS
    as_aux_lemma =>
      obtain ⟨⟨xb, aT, cT⟩, hS⟩ := hS.opn
      have ha := hS.fact k0m
      subst ha
      replace hS := hS.tail
      obtain ⟨n, hn⟩ : ∃ n, (fil own.pl pre).length = n := ⟨_, rfl⟩
      have HN := Keep.mk hn
      have HLE := Keep.mk (hS.fact k1m)
      have HSB : Keep (boxA sb [tk, iv r, iv sh, vC, vT, pt gb] 80 ∈ KK) := ⟨hKK _ k3m⟩
      have HB : Keep (Sep w0 W (boxA xb (snv x) 33 :: pureA ((fil own.pl pre).length ≤ sh.toNat) :: boxA tb [.slice aT n cT] 27 :: rowV 33 5 (.slice aT n cT) n (fl snv (fil own.pl pre)) :: boxA pb [pt sb] 72 :: boxA cb (crv own) 26 :: l ++ KK)) := ⟨by
        have q : Sep w0 W ((boxA xb (snv x) 33 :: pureA ((fil own.pl pre).length ≤ sh.toNat) :: boxA tb [.slice aT (fil own.pl pre).length cT] 27 :: rowV 33 5 (.slice aT (fil own.pl pre).length cT) (fil own.pl pre).length (fl snv (fil own.pl pre)) :: boxA pb [pt sb] 72 :: boxA cb (crv own) 26 :: l) ++ KK) := hS
        rw [hn] at q ⊢
        exact q⟩
      obtain ⟨bb, hbb⟩ : ∃ bb, decide ((n : Int) = sh) = bb := ⟨_, rfl⟩
      have HBB : Keep (((n : Int) == sh) = bb ∧ decide ((n : Int) = sh) = bb) := ⟨⟨by rw [← hbb]; rfl, hbb⟩⟩
      clear hS hKK hn hbb
      gi_wp2_with fail
      refine round_Y (S := fun w' => Sep w0 w' (boxA xb (snv x) 33 :: pureA ((fil own.pl pre).length ≤ sh.toNat) :: boxA tb [.slice aT n cT] 27 :: rowV 33 5 (.slice aT n cT) n (fl snv (fil own.pl pre)) :: boxA pb [pt sb] 72 :: boxA cb (crv own) 26 :: l ++ KK)) [] (by kernel_rfl) (by kernel_rfl) (fun ⟨_, _, h⟩ => h) ?_
      obtain ⟨W0, hW0⟩ : ∃ W_, W.drew = W_ := ⟨_, rfl⟩
      replace HB := Keep.mk (HB.out.grown (gr_drew _ none))
      rw [hW0] at HB ⊢
      clear hW0
      have hHeld : (fun w' => Sep w0 w' (boxA xb (snv x) 33 :: pureA ((fil own.pl pre).length ≤ sh.toNat) :: boxA tb [.slice aT n cT] 27 :: rowV 33 5 (.slice aT n cT) n (fl snv (fil own.pl pre)) :: boxA pb [pt sb] 72 :: boxA cb (crv own) 26 :: l ++ KK)) W0 := HB.out
      refine yt (i := 0) (v := ?_) rfl (Or.inl ⟨by rfl, ?_⟩) (by assumption) ?_
      rotate_left
      · (intro w hSw; have q := (hSw.boxGet k2m).cellv 0 _ rfl; go_simp; first | done | (with_reducible rfl))
      simp only [Act.put, A1, A3, A4, A5, A6]
      refine yp (i := 1) (v := ?_) rfl (Or.inl ⟨by rfl, ?_⟩) ?_
      rotate_left
      · (intro w hSw; go_simp; first | done | (with_reducible rfl))
      simp only [Act.put, A1, A2, A3, A4, A5, A6]
      refine yt (i := 2) (v := ?_) rfl (Or.inl ⟨by rfl, ?_⟩) (by assumption) ?_
      rotate_left
      · (intro w hSw; have q := (hSw.boxGet k4m).cellv 0 _ rfl; go_simp; first | done | (with_reducible rfl))
      simp only [Act.put, A1, A2, A3, A4, A5, A6]
      refine yp (i := 3) (v := ?_) rfl (Or.inl ⟨by rfl, ?_⟩) ?_
      rotate_left
      · (intro w hSw; go_simp; first | done | (with_reducible rfl))
      simp only [Act.put, A1, A2, A3, A4, A5, A6]
      refine yp (i := 4) (v := ?_) rfl (Or.inl ⟨by rfl, ?_⟩) ?_
      rotate_left
      · (intro w hSw; go_simp; first | done | (with_reducible rfl))
      simp only [Act.put, A1, A2, A3, A4, A5, A6]
      refine yt (i := 5) (v := ?_) rfl (Or.inl ⟨by rfl, ?_⟩) (by assumption) ?_
      rotate_left
      · (intro w hSw; have q := (hSw.boxGet (List.mem_append_right _ HSB.out)).cellv 2 _ rfl; go_simp; first | done | (with_reducible rfl))
      simp only [Act.put, A1, A2, A3, A4, A5, A6]
      refine yp (i := 6) (v := .bool bb) rfl (Or.inl ⟨by rfl, ?_⟩) ?_
      · (intro w hSw; have q := HBB.out; go_simp; first | done | rfl | (simp [q]; done) | trace_state)
      simp only [Act.put, A1, A2, A3, A4, A5, A6]
      refine wpAnyY_done (by kernel_rfl) ?_ _
      clear hHeld
      cases bb with
      | true =>
        have HE : Keep (fil own.pl pre = fil own.pl (pre ++ [x]).dropLast ∧ (fil own.pl pre).length = sh.toNat) := ⟨⟨by rw [List.dropLast_concat], by
          have := of_decide_eq_true HBB.out.2
          rw [HN.out]
          omega⟩⟩
        have HX : Keep (Sep w0 W0 ((boxA tb [.slice aT (fil own.pl pre).length cT] 27 :: rowV 33 5 (.slice aT (fil own.pl pre).length cT) (fil own.pl pre).length (fl snv (fil own.pl pre)) :: boxA pb [pt sb] 72 :: boxA cb (crv own) 26 :: l) ++ KK)) := ⟨by
          rw [HN.out]
          have q := (fr1 [_, _, _, _, _] (fr1 [_, _, _, _, _] (fr1 [_, _, _, _, _] (fr1 [_, _, _, _, _] HB.out))))
          exact Sep.dropM [_, _, _, _] [_, _] q⟩
        clear HB HBB
        gi_wp2_with fail
        refine Sep.cls (fun p : Option Addr × Nat × List Sn => [pureA ((.exit 0 : Code) = .exit 0 ∧ p.2.2 = fil own.pl (pre ++ [x]).dropLast ∧ p.2.2.length = sh.toNat), boxA tb [.slice p.1 p.2.2.length p.2.1] 27, rowV 33 5 (.slice p.1 p.2.2.length p.2.1) p.2.2.length (fl snv p.2.2), boxA pb [pt sb] 72, boxA cb (crv own) 26] ++ l) (aT, cT, fil own.pl pre) ?_
        exact HX.out.know ⟨rfl, HE.out⟩
      | false =>
        have d0 := (HB.out.boxGet k0m).cellv 0 _ rfl
        have d1 := (HB.out.boxGet k0m).cellv 1 _ rfl
        have e0 := (HB.out.boxGet k5m).cellv 0 _ rfl
        have t0 := (HB.out.boxGet k2m).cellv 0 _ rfl
        have HNE : Keep (n + 1 ≤ sh.toNat) := ⟨by
          have q1 := of_decide_eq_false HBB.out.2
          have q2 := HLE.out
          rw [HN.out] at q2
          have := HSH.out
          omega⟩
        clear HBB
        obtain ⟨ow, how⟩ : ∃ ow, decide (x.kd = 1 ∧ x.id = own.pl) = ow := ⟨_, rfl⟩
        cases ow with
        | true =>
          have ho := of_decide_eq_true how
          have k1 : (x.kd == 1) = true := by simp [ho.1]
          have k2 : decide (x.kd = 1) = true := by simp [ho.1]
          have k3 : (x.id == own.pl) = true := by simp [ho.2]
          have k4 : decide (x.id = own.pl) = true := by simp [ho.2]
          have k5 : (x.kd != 1) = false := by simp [ho.1]
          have k6 : (x.id != own.pl) = false := by simp [ho.2]
          have HFA : Keep (fil own.pl (pre ++ [x]) = fil own.pl pre) := ⟨by rw [fil_app, if_pos ho]⟩
          have HX : Keep (Sep w0 W0 ((boxA tb [.slice aT (fil own.pl pre).length cT] 27 :: rowV 33 5 (.slice aT (fil own.pl pre).length cT) (fil own.pl pre).length (fl snv (fil own.pl pre)) :: boxA pb [pt sb] 72 :: boxA cb (crv own) 26 :: l) ++ KK)) := ⟨by
            rw [HN.out]
            have q := (fr1 [_, _, _, _, _] (fr1 [_, _, _, _, _] (fr1 [_, _, _, _, _] (fr1 [_, _, _, _, _] HB.out))))
            exact Sep.dropM [_, _, _, _] [_, _] q⟩
          clear HB how ho
          gi_wp2_with fail
          refine Sep.cls (fun p : Option Addr × Nat => [pureA ((fil own.pl (pre ++ [x])).length ≤ sh.toNat), boxA tb [.slice p.1 (fil own.pl (pre ++ [x])).length p.2] 27, rowV 33 5 (.slice p.1 (fil own.pl (pre ++ [x])).length p.2) (fil own.pl (pre ++ [x])).length (fl snv (fil own.pl (pre ++ [x]))), boxA pb [pt sb] 72, boxA cb (crv own) 26] ++ l) (aT, cT) ?_
          rw [HFA.out]
          exact HX.out.know HLE.out
        | false =>
          have ho := of_decide_eq_false how
          have HFA : Keep (fil own.pl (pre ++ [x]) = fil own.pl pre ++ [x]) := ⟨by rw [fil_app, if_neg ho]⟩
          have HXR := Keep.mk ((HB.out.boxGet k0m).range)
          obtain ⟨g9, c9, W9, ap, S9⟩ := Sep.appN (L := fil own.pl pre) x (by
            have q := (fr1 [_, _, _, _, _] (fr1 [_, _, _, _] (fr1 [_, _, _] (fr1 [_, _, _] (fr1 [_, _, _, _, _] (fr1 [_, _, _, _, _] HB.out))))))
            rw [HN.out]
            exact q) (by rw [HN.out]; have := HNE.out; have := HSH.out; omega)
          rw [HN.out] at ap S9
          have y0 := (S9.boxGet k1m).cellv 0 _ rfl
          have z0 := (S9.boxGet k1m).frozen 0
          have S10 := S9.swap.boxPut 0 (sl g9 (n + 1) c9)
          have HX : Keep (Sep w0 (W9.setCell ⟨tb, 0, none⟩ (sl g9 (n + 1) c9)) ((boxA tb [sl g9 (fil own.pl pre ++ [x]).length c9] 27 :: rowV 33 5 (sl g9 (fil own.pl pre ++ [x]).length c9) (fil own.pl pre ++ [x]).length (fl snv (fil own.pl pre ++ [x])) :: boxA pb [pt sb] 72 :: boxA cb (crv own) 26 :: l) ++ KK)) := ⟨by
            have e : (fil own.pl pre ++ [x]).length = n + 1 := by rw [List.length_append, HN.out]; rfl
            rw [e] at S10 ⊢
            exact Sep.dropM [_, _] [_, _] S10⟩
          have HLN : Keep ((fil own.pl pre ++ [x]).length ≤ sh.toNat) := ⟨by rw [List.length_append, HN.out]; exact HNE.out⟩
          have AP := Keep.mk ap
          have HG : Keep (∀ W, (Instr.buildSlice 27 1 #[(0, .agg (snv x).toArray)]).run Tryz.prog W = .ok (sl W.heap.size 1 1) (W.alloc (.cells #[iv x.kd, iv x.id, iv x.x, iv x.y, iv x.hd] 33))) := ⟨fun W => bsN x W⟩
          clear S9 S10 HB ap
          by_cases hkd : x.kd = 1
          · have hid : ¬ x.id = own.pl := fun e => ho ⟨hkd, e⟩
            have k1 : (x.kd == 1) = true := by simp [hkd]
            have k2 : decide (x.kd = 1) = true := by simp [hkd]
            have k3 : (x.id == own.pl) = false := by simp [hid]
            have k4 : decide (x.id = own.pl) = false := by simp [hid]
            have k5 : (x.kd != 1) = false := by simp [hkd]
            have k6 : (x.id != own.pl) = true := by simp [hid]
            clear ho how hkd hid
            gi_wp2_with (first
              | (show wpListIn _ _ _ _ _ ({ dst := some 35, op := Op.load 33 _, type := _, pos := _, after := _, guard := _ } :: _) _ _
                 refine wpListIn_load_mid rfl 33 _ rfl _ _ rfl (snv x) _ HXR.out hdu.1 hdu.2 info33 ?_)
              | (show wpListIn _ _ _ _ _ ({ dst := some 36, op := Op.buildSlice 27 _ _, type := _, pos := _, after := _, guard := _ } :: _) _ _
                 refine wpListIn_bs_run rfl (.tmp 35) 27 rfl _ rfl (HG.out _) ?_)
              | (show wpListIn _ _ _ _ _ ({ dst := some 37, op := Op.call { callee := Callee.builtin Builtin.append, args := _, argTypes := _ }, type := _, pos := _, after := _, guard := _ } :: _) _ _
                 refine wpListIn_append_run _ rfl (.tmp 34) (.tmp 36) 27 27 rfl _ _ rfl rfl AP.out ?_))
            refine Sep.cls (fun p : Option Addr × Nat => [pureA ((fil own.pl (pre ++ [x])).length ≤ sh.toNat), boxA tb [.slice p.1 (fil own.pl (pre ++ [x])).length p.2] 27, rowV 33 5 (.slice p.1 (fil own.pl (pre ++ [x])).length p.2) (fil own.pl (pre ++ [x])).length (fl snv (fil own.pl (pre ++ [x]))), boxA pb [pt sb] 72, boxA cb (crv own) 26] ++ l) (some ⟨g9, 0, none⟩, c9) ?_
            rw [HFA.out]
            exact HX.out.know HLN.out
          · have k1 : (x.kd == 1) = false := by simp [hkd]
            have k2 : decide (x.kd = 1) = false := by simp [hkd]
            have k5 : (x.kd != 1) = true := by simp [hkd]
            clear ho how
            gi_wp2_with (first
              | (show wpListIn _ _ _ _ _ ({ dst := some 35, op := Op.load 33 _, type := _, pos := _, after := _, guard := _ } :: _) _ _
                 refine wpListIn_load_mid rfl 33 _ rfl _ _ rfl (snv x) _ HXR.out hdu.1 hdu.2 info33 ?_)
              | (show wpListIn _ _ _ _ _ ({ dst := some 36, op := Op.buildSlice 27 _ _, type := _, pos := _, after := _, guard := _ } :: _) _ _
                 refine wpListIn_bs_run rfl (.tmp 35) 27 rfl _ rfl (HG.out _) ?_)
              | (show wpListIn _ _ _ _ _ ({ dst := some 37, op := Op.call { callee := Callee.builtin Builtin.append, args := _, argTypes := _ }, type := _, pos := _, after := _, guard := _ } :: _) _ _
                 refine wpListIn_append_run _ rfl (.tmp 34) (.tmp 36) 27 27 rfl _ _ rfl rfl AP.out ?_))
            refine Sep.cls (fun p : Option Addr × Nat => [pureA ((fil own.pl (pre ++ [x])).length ≤ sh.toNat), boxA tb [.slice p.1 (fil own.pl (pre ++ [x])).length p.2] 27, rowV 33 5 (.slice p.1 (fil own.pl (pre ++ [x])).length p.2) (fil own.pl (pre ++ [x])).length (fl snv (fil own.pl (pre ++ [x]))), boxA pb [pt sb] 72, boxA cb (crv own) 26] ++ l) (some ⟨g9, 0, none⟩, c9) ?_
            rw [HFA.out]
            exact HX.out.know HLN.out
  case done =>
    intro D xs W hxs hS
    obtain ⟨p, hI⟩ := (hS.swap).opn
    have HQ0 : Sep w0 W ([pureA ((fil own.pl xs).length ≤ sh.toNat), boxA tb [.slice p.1 (fil own.pl xs).length p.2] 27, rowV 33 5 (.slice p.1 (fil own.pl xs).length p.2) (fil own.pl xs).length (fl snv (fil own.pl xs)), boxA pb [pt sb] 72, boxA cb (crv own) 26] ++ (l ++ (objA D (.deferred (some [])) :: boxA b3 [pt sb] 72 :: boxA b4 [iv own.x, iv own.y] 24 :: boxA b5 [iv (sh + 1)] 3 :: boxA sb [tk, iv r, iv sh, vC, vT, pt gb] 80 :: rowV 33 5 vT L.length (fl snv L) :: gridA gb sd (plM L) :: []))) := by
      rw [← List.append_assoc]
      exact hI
    have hle := HQ0.fact k0m
    obtain ⟨TT, hT0⟩ : ∃ TT, fil own.pl xs = TT := ⟨_, rfl⟩
    have hTT : TT = (fil own.pl (nsS L own.x own.y r (sh + 1))).take sh.toNat := by rw [← hxs, ← hT0, List.take_of_length_le hle]
    rw [hT0] at HQ0
    obtain ⟨m, hm⟩ : ∃ m, TT.length = m := ⟨_, rfl⟩
    rw [hm] at HQ0
    obtain ⟨aT, cT⟩ := p
    have HQ1 := HQ0.perm (List.Perm.append_left [_, _, _, _, _] (List.perm_append_comm (l₁ := l) (l₂ := objA D (.deferred (some [])) :: boxA b3 [pt sb] 72 :: boxA b4 [iv own.x, iv own.y] 24 :: boxA b5 [iv (sh + 1)] 3 :: boxA sb [tk, iv r, iv sh, vC, vT, pt gb] 80 :: rowV 33 5 vT L.length (fl snv L) :: gridA gb sd (plM L) :: [])))
    have HQ := Sep.dropM [_, _, _, _, _, _] [_, _, _, _, _, _] (fr1 [_, _, _, _, _, _] (fr1 [_, _, _, _, _, _] (fr1 [_, _, _, _, _, _, _, _] (fr1 [_, _, _, _, _, _, _, _, _, _, _] (fr1 [_, _, _, _, _, _, _, _, _, _, _] (fr1 [_, _, _, _, _, _, _, _, _, _, _] HQ1))))))
    clear HQ0 HQ1 hI hS hle hT0 hxs
    have HF : Keep (Sep w0 W (boxA tb [.slice aT m cT] 27 :: rowV 33 5 (.slice aT m cT) m (fl snv TT) :: objA D (.deferred (some [])) :: boxA sb [tk, iv r, iv sh, vC, vT, pt gb] 80 :: rowV 33 5 vT L.length (fl snv L) :: gridA gb sd (plM L) :: l)) := ⟨HQ⟩
    have HTM := Keep.mk hm
    have HTT := Keep.mk hTT
    clear HQ hm hTT
    have t0 := (HF.out.boxGet k0m).cellv 0 _ rfl
    by_cases hz : m = 0
    · subst hz
      have HZ : Keep (TT = []) := ⟨List.eq_nil_of_length_eq_zero HTM.out⟩
      have HC := Keep.mk (sortS_none W aT cT (.func (.func 68) #[] #[]))
      gi_wp2_with fail
      refine ⟨trivial, (callsIn_wide.2 HC.out).mono ?_⟩
      rintro e W5 ⟨rfl, hW5⟩
      subst hW5
      gi_wp2_with fail
      refine leaves_tmp (p := 4) rfl _ D (.slice aT 0 cT) rfl _ rfl (HF.out.objGet k2m) ?_
      refine ⟨_, rfl, ⟨[], ?_, List.Pairwise.nil, ?_⟩⟩
      · rw [← HTT.out, HZ.out]
      · have q := HF.out
        rw [HZ.out] at q
        have q2 := (fr1 [_, _] q).objPut (.deferred none)
        exact Sep.dropM [_] [_] q2.tail.swap
    · obtain ⟨g, c', e, _⟩ := own_any (HF.out.rowGet k1m) (by omega)
      injection e with e1 _ e3
      subst e1 e3
      have HC := Keep.mk (sortS_c w0 W (boxA tb [sl g m cT] 27 :: objA D (.deferred (some [])) :: boxA sb [tk, iv r, iv sh, vC, vT, pt gb] 80 :: rowV 33 5 vT L.length (fl snv L) :: gridA gb sd (plM L) :: l) g cT TT (by rw [HTM.out]; have q := HTT.out; have q2 : TT.length ≤ sh.toNat := (by rw [q, List.length_take]; exact Nat.min_le_left _ _); have := HSH.out; rw [HTM.out] at q2; omega) (by rw [HTM.out]; exact HF.out.swap))
      rw [HTM.out] at HC
      clear HF
      gi_wp2_with fail
      refine ⟨trivial, (callsIn_wide.2 HC.out).mono ?_⟩
      rintro e W5 ⟨rfl, T', p1, p2, S5⟩
      have t1 := (S5.boxGet k1m).cellv 0 _ rfl
      have HS5 := Keep.mk (And.intro p1 (And.intro p2 S5))
      clear p1 p2 S5 t0 HC
      gi_wp2_with fail
      refine leaves_tmp (p := 4) rfl _ D (sl g m cT) rfl _ rfl (HS5.out.2.2.objGet k2m) ?_
      refine ⟨_, rfl, ⟨T', ?_, HS5.out.2.1, ?_⟩⟩
      · rw [← HTT.out]; exact HS5.out.1
      · have q2 := (fr1 [_, _] HS5.out.2.2).objPut (.deferred none)
        rw [HS5.out.1.length_eq, HTM.out]
        exact Sep.dropM [_] [_] q2.tail
  case stop =>
    intro D c pre W hp hS
    obtain ⟨p, hI⟩ := (hS.swap).opn
    obtain ⟨aT, cT, TT⟩ := p
    have HQ0 : Sep w0 W ([pureA (c = .exit 0 ∧ TT = fil own.pl pre.dropLast ∧ TT.length = sh.toNat), boxA tb [.slice aT TT.length cT] 27, rowV 33 5 (.slice aT TT.length cT) TT.length (fl snv TT), boxA pb [pt sb] 72, boxA cb (crv own) 26] ++ (l ++ (objA D (.deferred (some [])) :: boxA b3 [pt sb] 72 :: boxA b4 [iv own.x, iv own.y] 24 :: boxA b5 [iv (sh + 1)] 3 :: boxA sb [tk, iv r, iv sh, vC, vT, pt gb] 80 :: rowV 33 5 vT L.length (fl snv L) :: gridA gb sd (plM L) :: []))) := by
      rw [← List.append_assoc]
      exact hI
    obtain ⟨hce, hT1, hT2⟩ := HQ0.fact k0m
    subst hce
    have hTT : TT = (fil own.pl (nsS L own.x own.y r (sh + 1))).take sh.toNat := by
      have hp2 : pre.dropLast <+: nsS L own.x own.y r (sh + 1) := (List.dropLast_prefix pre).trans hp
      have hp3 := fil_pre (pl := own.pl) hp2
      rw [← hT1] at hp3
      rw [← hT2]
      exact List.prefix_iff_eq_take.1 hp3
    obtain ⟨m, hm⟩ : ∃ m, TT.length = m := ⟨_, rfl⟩
    rw [hm] at HQ0
    have HQ1 := HQ0.perm (List.Perm.append_left [_, _, _, _, _] (List.perm_append_comm (l₁ := l) (l₂ := objA D (.deferred (some [])) :: boxA b3 [pt sb] 72 :: boxA b4 [iv own.x, iv own.y] 24 :: boxA b5 [iv (sh + 1)] 3 :: boxA sb [tk, iv r, iv sh, vC, vT, pt gb] 80 :: rowV 33 5 vT L.length (fl snv L) :: gridA gb sd (plM L) :: [])))
    have HQ := Sep.dropM [_, _, _, _, _, _] [_, _, _, _, _, _] (fr1 [_, _, _, _, _, _] (fr1 [_, _, _, _, _, _] (fr1 [_, _, _, _, _, _, _, _] (fr1 [_, _, _, _, _, _, _, _, _, _, _] (fr1 [_, _, _, _, _, _, _, _, _, _, _] (fr1 [_, _, _, _, _, _, _, _, _, _, _] HQ1))))))
    clear HQ0 HQ1 hI hS hT1 hT2 hp
    have HF : Keep (Sep w0 W (boxA tb [.slice aT m cT] 27 :: rowV 33 5 (.slice aT m cT) m (fl snv TT) :: objA D (.deferred (some [])) :: boxA sb [tk, iv r, iv sh, vC, vT, pt gb] 80 :: rowV 33 5 vT L.length (fl snv L) :: gridA gb sd (plM L) :: l)) := ⟨HQ⟩
    have HTM := Keep.mk hm
    have HTT := Keep.mk hTT
    clear HQ hm hTT
    have t0 := (HF.out.boxGet k0m).cellv 0 _ rfl
    by_cases hz : m = 0
    · subst hz
      have HZ : Keep (TT = []) := ⟨List.eq_nil_of_length_eq_zero HTM.out⟩
      have HC := Keep.mk (sortS_none W aT cT (.func (.func 68) #[] #[]))
      gi_wp2_with fail
      refine ⟨trivial, (callsIn_wide.2 HC.out).mono ?_⟩
      rintro e W5 ⟨rfl, hW5⟩
      subst hW5
      gi_wp2_with fail
      refine leaves_tmp (p := 4) rfl _ D (.slice aT 0 cT) rfl _ rfl (HF.out.objGet k2m) ?_
      refine ⟨_, rfl, ⟨[], ?_, List.Pairwise.nil, ?_⟩⟩
      · rw [← HTT.out, HZ.out]
      · have q := HF.out
        rw [HZ.out] at q
        have q2 := (fr1 [_, _] q).objPut (.deferred none)
        exact Sep.dropM [_] [_] q2.tail.swap
    · obtain ⟨g, c', e, _⟩ := own_any (HF.out.rowGet k1m) (by omega)
      injection e with e1 _ e3
      subst e1 e3
      have HC := Keep.mk (sortS_c w0 W (boxA tb [sl g m cT] 27 :: objA D (.deferred (some [])) :: boxA sb [tk, iv r, iv sh, vC, vT, pt gb] 80 :: rowV 33 5 vT L.length (fl snv L) :: gridA gb sd (plM L) :: l) g cT TT (by rw [HTM.out]; have q := HTT.out; have q2 : TT.length ≤ sh.toNat := (by rw [q, List.length_take]; exact Nat.min_le_left _ _); have := HSH.out; rw [HTM.out] at q2; omega) (by rw [HTM.out]; exact HF.out.swap))
      rw [HTM.out] at HC
      clear HF
      gi_wp2_with fail
      refine ⟨trivial, (callsIn_wide.2 HC.out).mono ?_⟩
      rintro e W5 ⟨rfl, T', p1, p2, S5⟩
      have t1 := (S5.boxGet k1m).cellv 0 _ rfl
      have HS5 := Keep.mk (And.intro p1 (And.intro p2 S5))
      clear p1 p2 S5 t0 HC
      gi_wp2_with fail
      refine leaves_tmp (p := 4) rfl _ D (sl g m cT) rfl _ rfl (HS5.out.2.2.objGet k2m) ?_
      refine ⟨_, rfl, ⟨T', ?_, HS5.out.2.1, ?_⟩⟩
      · rw [← HTT.out]; exact HS5.out.1
      · have q2 := (fr1 [_, _] HS5.out.2.2).objPut (.deferred none)
        rw [HS5.out.1.length_eq, HTM.out]
        exact Sep.dropM [_] [_] q2.tail
end Go.Proofs.YtgedlabmndlooaaGreat
