/- view: ViewNoMore -/
import Derived.Test.YtgedlabmndlooaaGreatF0
namespace Go.Proofs.YtgedlabmndlooaaGreat
open Go Go.RowKit Go.Maps Go.Shelf Go.Lib Go.Sort

/-- the car and the shot that are made of one that was told -/
def mkC (x : Sn) (i : Int) : Cr := ⟨x.id, { data := #[111, 116, 104, 101, 114] }, x.x, x.y, 9, i, x.hd, i, -i, 3, 4, 0, 5, 6⟩
def mkS (x : Sn) (i : Int) : Sh := ⟨x.id, i, x.x, x.y, 1, 0, -i⟩
theorem builtC (x : Sn) (i : Int) : Tryz.prog.built 26 [(0, iv x.id), (1, .string { data := #[111, 116, 104, 101, 114] }), (2, .agg [iv x.x, iv x.y].toArray), (3, .agg #[iv 9, iv i]), (4, iv x.hd), (5, iv i), (6, iv (-i)), (7, iv 3), (8, iv 4), (10, iv 5), (11, iv 6)] = some (crv (mkC x i)).toArray := by kernel_rfl
theorem builtS (x : Sn) (i : Int) : Tryz.prog.built 46 [(0, iv x.id), (1, iv i), (2, .agg [iv x.x, iv x.y].toArray), (3, .agg #[iv 1, iv 0]), (4, iv (-i))] = some (shv (mkS x i)).toArray := by kernel_rfl
theorem built24b (a b : Int) : Tryz.prog.built 24 [(0, iv a), (1, iv b)] = some #[iv a, iv b] := by kernel_rfl
theorem built37b (t n : Int) : Tryz.prog.built 37 [(0, .int .u64 t), (3, iv n)] = some #[.int .u64 t, .slice none 0 0, .slice none 0 0, iv n] := by kernel_rfl
theorem bslc (c : Cr) (W : World) : (Instr.buildSlice 34 1 #[(0, .agg (crv c).toArray)]).run Tryz.prog W = .ok (sl W.heap.size 1 1) (W.alloc (.cells (crv c).toArray 26)) := by kernel_rfl
theorem bsls (c : Sh) (W : World) : (Instr.buildSlice 35 1 #[(0, .agg (shv c).toArray)]).run Tryz.prog W = .ok (sl W.heap.size 1 1) (W.alloc (.cells (shv c).toArray 46)) := by kernel_rfl
theorem Sep.appCr {w0 W : World} {l : List As} {v : Value} {L : List Cr} (c : Cr) (h : Sep w0 W (rowV 26 14 v L.length (fl crv L) :: l)) (hn : (L.length + 1) * 120 ≤ 140737488355328) :
    ∃ g k W', (Builtin.append_ #[34, 34] 34 #[v, sl W.heap.size 1 1]).run Tryz.prog (W.alloc (.cells (crv c).toArray 26)) = .ok (sl g (L.length + 1) k) W' ∧ Sep w0 W' (rowV 26 14 (sl g (L.length + 1) k) (L ++ [c]).length (fl crv (L ++ [c])) :: l) := by
  obtain ⟨i, i1, i2, i3, i4⟩ := infoBC
  obtain ⟨g, k, W', r, S⟩ := Sep.app (t := 34) undSC i1 i4 i2 i3 rfl (by decide) h (crv c) rfl (crv_one c) hn (by decide)
  refine ⟨g, k, W', r, ?_⟩
  rw [fl_app, List.length_append, List.length_singleton, show fl crv [c] = crv c by simp [fl]]
  exact S
theorem Sep.appSh {w0 W : World} {l : List As} {v : Value} {L : List Sh} (c : Sh) (h : Sep w0 W (rowV 46 7 v L.length (fl shv L) :: l)) (hn : (L.length + 1) * 56 ≤ 140737488355328) :
    ∃ g k W', (Builtin.append_ #[35, 35] 35 #[v, sl W.heap.size 1 1]).run Tryz.prog (W.alloc (.cells (shv c).toArray 46)) = .ok (sl g (L.length + 1) k) W' ∧ Sep w0 W' (rowV 46 7 (sl g (L.length + 1) k) (L ++ [c]).length (fl shv (L ++ [c])) :: l) := by
  obtain ⟨i, i1, i2, i3, i4⟩ := infoBS
  obtain ⟨g, k, W', r, S⟩ := Sep.app (t := 35) undSS i1 i4 i2 i3 rfl (by decide) h (shv c) rfl (shv_one c) hn (by decide)
  refine ⟨g, k, W', r, ?_⟩
  rw [fl_app, List.length_append, List.length_singleton, show fl shv [c] = shv c by simp [fl]]
  exact S
theorem Made.car {T : List Sn} {CL : List Cr} {SL : List Sh} (m : Made T CL SL) {x : Sn} (hx : x.kd = 1) (i : Int) : Made (x :: T) (CL ++ [mkC x i]) SL := by
  refine ⟨?_, ?_, fun c hc => ?_⟩
  · rw [List.map_append, m.c, List.filter_cons_of_pos (by simp [hx]), List.reverse_cons]
    obtain ⟨kd, id, x1, y1, hd⟩ := x
    simp only at hx
    subst hx
    rfl
  · rw [m.s, List.filter_cons_of_neg (by simp [hx])]
  · rcases List.mem_append.1 hc with k | k
    · exact m.w c k
    · rw [List.mem_singleton] at k; subst k; rfl
theorem Made.sho {T : List Sn} {CL : List Cr} {SL : List Sh} (m : Made T CL SL) {x : Sn} (hx : x.kd = 2 ∧ x.hd = 0) (i : Int) : Made (x :: T) CL (SL ++ [mkS x i]) := by
  refine ⟨?_, ?_, m.w⟩
  · rw [m.c, List.filter_cons_of_neg (by simp [hx.1])]
  · rw [List.map_append, m.s, List.filter_cons_of_pos (by simp [hx.1]), List.reverse_cons]
    obtain ⟨kd, id, x1, y1, hd⟩ := x
    simp only at hx
    obtain ⟨h1, h2⟩ := hx
    subst h1 h2
    rfl
set_option maxRecDepth 100000 in
set_option maxHeartbeats 16000000 in
theorem nomore_c (W : World) (tick nx : Int) (vc vs : Value) (LC : List Cr) (LS : List Sh) (p rad sho : Int) (hS : StO W vc vs LC LS) (hn : LC.length + LS.length ≤ 1048576) :
    Calls Tryz.prog 4 #[.agg #[.int .u64 tick, vc, vs, iv nx], .agg #[iv p, iv rad, iv sho]] W fun e W' => e = .returned (.bool true) ∧ W.grownBy W' none := by
  have S1 := ((Sep.nil W).newBox #[.int .u64 tick, vc, vs, iv nx] 37).newBox #[iv p, iv rad, iv sho] 39
  simp only [World.size_alloc] at S1
  obtain ⟨b2, hb2⟩ : ∃ b, W.heap.size = b := ⟨_, rfl⟩
  obtain ⟨b3, hb3⟩ : ∃ b, b2 + 1 = b := ⟨_, rfl⟩
  obtain ⟨W1, hW1⟩ : ∃ w, (W.alloc (.cells #[.int .u64 tick, vc, vs, iv nx] 37)).alloc (.cells #[iv p, iv rad, iv sho] 39) = w := ⟨_, rfl⟩
  rw [hW1, hb2, hb3] at S1
  have HB : Keep (Sep W W1 (boxA b3 [iv p, iv rad, iv sho] 39 :: boxA b2 [.int .u64 tick, vc, vs, iv nx] 37 :: [])) := ⟨S1⟩
  have HS := Keep.mk hS
  have HNN := Keep.mk hn
  have HSV : Keep ((∃ a n c, vc = .slice a n c) ∧ ∃ a n c, vs = .slice a n c) := ⟨⟨by obtain ⟨a, c, e, _⟩ := hS.c; exact ⟨_, _, _, e⟩, by obtain ⟨a, c, e, _⟩ := hS.s; exact ⟨_, _, _, e⟩⟩⟩
  obtain ⟨dv, hdv⟩ := under29
  obtain ⟨dc, hdc⟩ := under26
  obtain ⟨ds, hds⟩ := under37
  obtain ⟨du, hdu⟩ := under33
  obtain ⟨dw, hdw⟩ := under24
  clear S1 hS hn
  go_enter Tryz.func4, Tryz.ntmps4
  go_wp2_with fail
  clear hW1 hb2 hb3
  refine (alive_c W1).mono ?_
  rintro e W2 ⟨rfl, g2⟩
  replace HB := Keep.mk (HB.out.grown g2)
  clear g2
  have HR := Keep.mk ((HB.out.boxGet k1m).range)
  have a0 := (HB.out.boxGet k0m).cellv 0 _ rfl
  have a1 := (HB.out.boxGet k0m).cellv 1 _ rfl
  have a2 := (HB.out.boxGet k0m).cellv 2 _ rfl
  go_wp2_with (first
    | (with_reducible show wpList _ _ _ ({ dst := some 17, op := Op.load 37 _, type := _, pos := _, after := _, guard := _ } :: _) _ _
       refine wpList_load_mid rfl 37 _ rfl _ _ rfl ([.int .u64 tick, vc, vs, iv nx]) _ HR.out hds.1 hds.2 info37 ?_))
  refine (of_c W2 tick nx p rad sho vc vs LC LS (HS.out.kept HB.out.g)).mono ?_
  rintro e W3 hOf
  clear a0 a1 a2 HR
  cases hfd : LC.find? (fun c => c.pl == p) with
  | none =>
    obtain ⟨rfl, g3⟩ := hOf.no hfd
    replace HB := Keep.mk (HB.out.grown g3)
    have HFD := Keep.mk hfd
    clear hOf g3 hfd
    go_wp2_with (first
      | (with_reducible show wpList _ _ _ ({ dst := _, op := Op.store 29 _ _, type := _, pos := _, after := _, guard := _ } :: _) _ _
         refine store_new W3 (zvw) 29 rfl rfl rfl rfl rfl info29 zvw_one ?_))
    intro W4 hS4 g4
    obtain ⟨vb, hvb⟩ : ∃ b, W3.heap.size = b := ⟨_, rfl⟩
    have S4 := hS4 _ _ HB.out
    rw [hvb] at S4 ⊢
    have HB4 := Keep.mk S4
    clear S4 hS4 g4 hvb HB
    have HR := Keep.mk ((HB4.out.boxGet k2m).range)
    have a0 := (HB4.out.boxGet k1m).cellv 0 _ rfl
    go_wp2_with (first
      | (with_reducible show wpList _ _ _ ({ dst := some 28, op := Op.load 37 _, type := _, pos := _, after := _, guard := _ } :: _) _ _
         refine wpList_load_mid rfl 37 _ rfl _ _ rfl ([.int .u64 tick, vc, vs, iv nx]) _ HR.out hds.1 hds.2 info37 ?_))
    refine (own_c W4 tick nx p vc vs LC ((HS.out.kept HB4.out.g).c) (by have := HNN.out; omega)).mono ?_
    rintro e W5 hOw
    obtain rfl := hOw.no HFD.out
    have S5 := HB4.out.grown hOw.g
    have f15 := (S5.boxGet k0m).cellv 15 _ rfl
    have HB5 := Keep.mk S5
    clear a0 HR HB4 hOw S5
    go_wp2_with (first
      | (with_reducible show wpList _ _ _ ({ dst := _, op := Op.store 26 _ _, type := _, pos := _, after := _, guard := _ } :: _) _ _
         refine store_new W5 (zcr) 26 rfl rfl rfl rfl rfl info26 zcr_one ?_))
    intro W6 hS6 g6
    have f16 := g6.cell f15 (by simp)
    have HG := Keep.mk (HB5.out.g.trans g6)
    clear hS6 g6 HB5 f15
    go_wp2_with fail
    go_ret
    exact ⟨rfl, HG.out⟩
  | some own =>
    obtain ⟨v, T, rfl, hT, S3⟩ := hOf.yes own hfd
    obtain ⟨aT, cT, rfl⟩ := own_slice (S3.rowGet k0m)
    obtain ⟨n, hnT⟩ : ∃ n, T.length = n := ⟨_, rfl⟩
    have HT := Keep.mk hT
    have HTN := Keep.mk hnT
    rw [hnT] at S3 ⊢
    have HB3 : Keep (Sep W W3 (rowV 33 5 (.slice aT n cT) n (fl snv T) :: boxA b3 [iv p, iv rad, iv sho] 39 :: boxA b2 [.int .u64 tick, vc, vs, iv nx] 37 :: [])) := ⟨HB.out.join S3⟩
    have HFD := Keep.mk hfd
    have HOC : Keep (CrOk own ∧ own.pl = p) := ⟨⟨HS.out.oc own (List.mem_of_find?_eq_some hfd), by have := List.find?_some hfd; simpa using this⟩⟩
    have HVO := Keep.mk (vwv_one tick own (.slice aT n cT) ⟨_, _, _, rfl⟩)
    have HCO := Keep.mk (crv_one own)
    clear hOf S3 HB hT hnT hfd
    go_wp2_with (first
      | (with_reducible show wpList _ _ _ ({ dst := _, op := Op.store 29 _ _, type := _, pos := _, after := _, guard := _ } :: _) _ _
         refine store_new W3 (vwv tick own (.slice aT n cT)) 29 rfl rfl rfl rfl rfl info29 HVO.out ?_))
    intro W4 hS4 g4
    obtain ⟨vb, hvb⟩ : ∃ b, W3.heap.size = b := ⟨_, rfl⟩
    have S4 := hS4 _ _ HB3.out
    rw [hvb] at S4 ⊢
    have HB4 := Keep.mk S4
    clear S4 hS4 g4 hvb HB3
    have HR := Keep.mk ((HB4.out.boxGet k3m).range)
    have a0 := (HB4.out.boxGet k2m).cellv 0 _ rfl
    go_wp2_with (first
      | (with_reducible show wpList _ _ _ ({ dst := some 28, op := Op.load 37 _, type := _, pos := _, after := _, guard := _ } :: _) _ _
         refine wpList_load_mid rfl 37 _ rfl _ _ rfl ([.int .u64 tick, vc, vs, iv nx]) _ HR.out hds.1 hds.2 info37 ?_))
    refine (own_c W4 tick nx p vc vs LC ((HS.out.kept HB4.out.g).c) (by have := HNN.out; omega)).mono ?_
    rintro e W5 hOw
    obtain rfl := hOw.yes own HFD.out
    have HB5 := Keep.mk (HB4.out.grown hOw.g)
    clear a0 HR HB4 hOw
    go_wp2_with (first
      | (with_reducible show wpList _ _ _ ({ dst := _, op := Op.store 26 _ _, type := _, pos := _, after := _, guard := _ } :: _) _ _
         refine store_new W5 (crv own) 26 rfl rfl rfl rfl rfl info26 HCO.out ?_))
    intro W6 hS6 g6
    obtain ⟨ob, hob⟩ : ∃ b, W5.heap.size = b := ⟨_, rfl⟩
    have S6 := hS6 _ _ HB5.out
    rw [hob] at S6 ⊢
    have HB6 : Keep (Sep W W6 (boxA ob (crv own) 26 :: boxA vb (vwv tick own (.slice aT n cT)) 29 :: rowV 33 5 (.slice aT n cT) n (fl snv T) :: boxA b3 [iv p, iv rad, iv sho] 39 :: boxA b2 [.int .u64 tick, vc, vs, iv nx] 37 :: [])) := ⟨S6⟩
    clear S6 hS6 g6 hob HB5
    have HRV := Keep.mk (vwv_car (HB6.out.boxGet k1m))
    have HRO := Keep.mk ((HB6.out.boxGet k0m).range)
    have v0 := (HB6.out.boxGet k1m).cellv 0 _ rfl
    have v15 := (HB6.out.boxGet k1m).cellv 15 _ rfl
    have s0 := (HB6.out.boxGet k4m).cellv 0 _ rfl
    have s3 := (HB6.out.boxGet k4m).cellv 3 _ rfl
    have HE : Keep (∀ w, (Op.equalIn 10000 26 (.agg (crv own).toArray) (.agg (crv own).toArray)).run Tryz.prog w = .ok true w) := ⟨fun w => by rw [eqC]; simp⟩
    have hE := HE.out
    obtain ⟨n5, hn5⟩ : ∃ z, IntKind.i64.wrap (nx + 5) = z := ⟨_, rfl⟩
    have HB37 := Keep.mk (built37b tick n5)
    have HON : Keep (∀ u ∈ [Value.int .u64 tick, .slice none 0 0, .slice none 0 0, iv n5], u.oneCell' = true) := ⟨by intro u hu; simp only [List.mem_cons, List.not_mem_nil, or_false] at hu; rcases hu with rfl | rfl | rfl | rfl <;> rfl⟩
    go_wp2_with (first
      | (with_reducible show wpList _ _ _ ({ dst := some 49, op := Op.load 26 _, type := _, pos := _, after := _, guard := _ } :: _) _ _
         refine wpList_load_mid rfl 26 _ rfl _ _ rfl (crv own) _ HRV.out hdc.1 hdc.2 info26 ?_)
      | (with_reducible show wpList _ _ _ ({ dst := some 50, op := Op.load 26 _, type := _, pos := _, after := _, guard := _ } :: _) _ _
         refine wpList_load_mid rfl 26 _ rfl _ _ rfl (crv own) _ HRO.out hdc.1 hdc.2 info26 ?_)
      | (with_reducible show wpList _ _ _ ({ dst := some 64, op := Op.build 37 _, type := _, pos := _, after := _, guard := _ } :: _) _ _
         refine wpList_build rfl 37 _ rfl #[.int .u64 tick, .slice none 0 0, .slice none 0 0, iv n5] ((congrArg (Tryz.prog.built 37) (by first | (simp only [List.map_toArray, List.map_cons, List.map_nil, Act.eval]; done) | (simp only [List.map_toArray, List.map_cons, List.map_nil, Act.eval]; with_reducible rfl) | (simp only [List.map_toArray, List.map_cons, List.map_nil, Act.eval]; rfl))).trans HB37.out) ?_
         simp only [Act.put, List.setIfInBounds_toArray, List.set_cons_zero, List.set_cons_succ])
      | (with_reducible show wpList _ _ _ ({ dst := _, op := Op.store 37 _ _, type := _, pos := _, after := _, guard := _ } :: _) _ _
         refine store_new W6 ([.int .u64 tick, .slice none 0 0, .slice none 0 0, iv n5]) 37 rfl rfl rfl rfl rfl info37 HON.out ?_))
    intro W7 hS7 g7
    obtain ⟨tb, htb⟩ : ∃ b, W6.heap.size = b := ⟨_, rfl⟩
    have S7 := hS7 _ _ HB6.out
    rw [htb] at S7 ⊢
    have w15 := g7.cell v15 (by simp)
    have HNT : Keep (n ≤ 32) := ⟨by rw [← HTN.out]; exact HT.out.le⟩
    have hn1 : IntKind.i64.wrap ((n : Int) - 1) = (n : Int) - 1 := by have := HNT.out; rw [IntKind.wrap_i64]; omega
    have HB7 : Keep (Sep W W7 (boxA tb [.int .u64 tick, .slice none 0 0, .slice none 0 0, iv n5] 37 :: rowV 26 14 (.slice none 0 0) 0 (fl crv ([])) :: rowV 46 7 (.slice none 0 0) 0 (fl shv ([])) :: boxA ob (crv own) 26 :: boxA vb (vwv tick own (.slice aT n cT)) 29 :: rowV 33 5 (.slice aT n cT) n (fl snv T) :: boxA b3 [iv p, iv rad, iv sho] 39 :: boxA b2 [.int .u64 tick, vc, vs, iv nx] 37 :: [])) := ⟨by
      have q := (S7.nilV 26 14).swap
      exact bk1 [_, _] ((q.nilV 46 7))⟩
    have HDT : Keep (T.drop n = []) := ⟨List.drop_eq_nil_of_le (by rw [HTN.out]; exact Nat.le_refl _)⟩
    clear S7 hS7 g7 htb HB6 HRV HRO v0 v15 s0 s3 hE hn5
    go_wp2_with fail
    clear w15
    go_loopw [10, 11] (fun u10 u11 wr => ∃ (j mC mS kC kS : Nat) (aC aS : Option Addr) (CL : List Cr) (SL : List Sh), j ≤ n ∧ u10 = iv ((j : Int) - 1) ∧ Keep (Made (T.drop j) CL SL ∧ CL.length = mC ∧ SL.length = mS ∧ mC + mS ≤ 32 - j ∧ (∀ c ∈ CL, CrOk c) ∧ ∀ s ∈ SL, ShOk s) ∧ Keep (Sep W wr (boxA tb [.int .u64 tick, .slice aC mC kC, .slice aS mS kS, iv n5] 37 :: rowV 26 14 (.slice aC mC kC) mC (fl crv (CL)) :: rowV 46 7 (.slice aS mS kS) mS (fl shv (SL)) :: boxA ob (crv own) 26 :: boxA vb (vwv tick own (.slice aT n cT)) 29 :: rowV 33 5 (.slice aT n cT) n (fl snv T) :: boxA b3 [iv p, iv rad, iv sho] 39 :: boxA b2 [.int .u64 tick, vc, vs, iv nx] 37 :: []))) (fun u10 _ _ => (intOf u10 + 1).toNat)
    case atStart =>
      refine ⟨n, 0, 0, 0, 0, none, none, [], [], Nat.le_refl _, rfl, ⟨⟨by rw [HDT.out]; exact Made.nil, rfl, rfl, by omega, (fun c hc => (by cases hc)), (fun c hc => (by cases hc))⟩⟩, HB7⟩
    case round =>
      clear HB7
      obtain ⟨j, mC, mS, kC, kS, aC, aS, CL, SL, hj, rfl, HM, HB⟩ := hrel
      have v15 := (HB.out.boxGet k4m).cellv 15 _ rfl
      cases j with
      | succ k =>
        have ek : ((k + 1 : Nat) : Int) - 1 = (k : Int) := by omega
        rw [ek]
        have hk0 : (0 : Int) ≤ (k : Int) := by omega
        have hk1 : decide ((k : Int) < 0) = false := by simp
        have hkn : (k : Int) < (n : Int) := by omega
        have hkt : ((k : Nat) : Int).toNat = k := by omega
        have hkw : IntKind.i64.wrap ((k : Int) - 1) = (k : Int) - 1 := by have := HNT.out; rw [IntKind.wrap_i64]; omega
        have hkm : IntKind.i64.wrap (-(k : Int)) = -(k : Int) := by have := HNT.out; rw [IntKind.wrap_i64]; omega
        obtain ⟨x, hx⟩ : ∃ x, T[k]? = some x := ⟨_, List.getElem?_eq_getElem (by rw [HTN.out]; omega)⟩
        obtain ⟨gT, rfl⟩ : ∃ g, aT = some ⟨g, 0, none⟩ := by
          obtain ⟨g, c', e, _⟩ := own_any (HB.out.rowGet k5m) (by omega)
          injection e with e1 _ _
          exact ⟨g, e1⟩
        have HRX : Keep (wr.rangeAt gT (k * 5) (snv x)) := ⟨fl_range snv_len (HB.out.rowGet k5m) (by omega) k x hx⟩
        have HXO : Keep (SnOk x ∧ (x.kd = 1 ∨ (x.kd = 2 ∧ x.hd = 0)) ∧ T.drop k = x :: T.drop (k + 1)) := ⟨⟨HT.out.ok HS.out.oc HS.out.os x (List.mem_of_getElem? hx), HT.out.kd x (List.mem_of_getElem? hx), by
          obtain ⟨h1, h2⟩ := List.getElem?_eq_some_iff.1 hx
          rw [List.drop_eq_getElem_cons h1, h2]⟩⟩
        have HKN : Keep (k < n) := ⟨by omega⟩
        have HXN := Keep.mk (snv_one x)
        clear hx hj
        go_wp2_with (first
          | (with_reducible show wpList _ _ _ ({ dst := some 77, op := Op.load 33 _, type := _, pos := _, after := _, guard := _ } :: _) _ _
             refine wpList_load_mid rfl 33 _ rfl _ _ rfl (snv x) _ HRX.out hdu.1 hdu.2 info33 ?_)
          | (with_reducible show wpList _ _ _ ({ dst := _, op := Op.store 33 _ _, type := _, pos := _, after := _, guard := _ } :: _) _ _
             refine store_new wr (snv x) 33 rfl rfl rfl rfl rfl info33 HXN.out ?_))
        intro W8 hS8 g8
        obtain ⟨xb, hxb⟩ : ∃ b, wr.heap.size = b := ⟨_, rfl⟩
        have S8 := hS8 _ _ HB.out
        rw [hxb] at S8 ⊢
        have HL : Keep (Sep W W8 (boxA xb (snv x) 33 :: boxA tb [.int .u64 tick, .slice aC mC kC, .slice aS mS kS, iv n5] 37 :: rowV 26 14 (.slice aC mC kC) mC (fl crv (CL)) :: rowV 46 7 (.slice aS mS kS) mS (fl shv (SL)) :: boxA ob (crv own) 26 :: boxA vb (vwv tick own (.slice (some ⟨gT, 0, none⟩) n cT)) 29 :: rowV 33 5 (.slice (some ⟨gT, 0, none⟩) n cT) n (fl snv T) :: boxA b3 [iv p, iv rad, iv sho] 39 :: boxA b2 [.int .u64 tick, vc, vs, iv nx] 37 :: [])) := ⟨S8⟩
        have x0 := (S8.boxGet k0m).cellv 0 _ rfl
        have x1 := (S8.boxGet k0m).cellv 1 _ rfl
        have x4 := (S8.boxGet k0m).cellv 4 _ rfl
        have HRW := Keep.mk ((S8.boxGet k0m).mid2 2 rfl rfl)
        have t1 := (S8.boxGet k1m).cellv 1 _ rfl
        have t2 := (S8.boxGet k1m).cellv 2 _ rfl
        clear hS8 g8 S8 HB hxb HRX v15
        by_cases hkd : x.kd = 1
        · have k1 : (x.kd == 1) = true := by simp [hkd]
          have k2 : decide (x.kd = 1) = true := by simp [hkd]
          have HMD := Keep.mk (HM.out.1.car hkd (k : Int))
          have HCK : Keep (CrOk (mkC x k)) := ⟨by
            have o := HXO.out.1
            have := HNT.out
            have := HKN.out
            exact ⟨(by decide : (5 : Nat) ≤ 281474976710656), o.id, o.x, o.y, ⟨(by decide : (-9223372036854775808 : Int) ≤ 9), (by decide : (9 : Int) ≤ 9223372036854775807)⟩, ⟨(by omega : (-9223372036854775808 : Int) ≤ (k : Int)), (by omega : (k : Int) ≤ 9223372036854775807)⟩, o.hd, ⟨(by omega : (-9223372036854775808 : Int) ≤ (k : Int)), (by omega : (k : Int) ≤ 9223372036854775807)⟩, ⟨(by omega : (-9223372036854775808 : Int) ≤ -(k : Int)), (by omega : -(k : Int) ≤ 9223372036854775807)⟩, ⟨(by decide : (-9223372036854775808 : Int) ≤ 3), (by decide : (3 : Int) ≤ 9223372036854775807)⟩, ⟨(by decide : (-9223372036854775808 : Int) ≤ 4), (by decide : (4 : Int) ≤ 9223372036854775807)⟩, ⟨(by decide : (-9223372036854775808 : Int) ≤ 0), (by decide : (0 : Int) ≤ 9223372036854775807)⟩, ⟨(by decide : (-9223372036854775808 : Int) ≤ 5), (by decide : (5 : Int) ≤ 9223372036854775807)⟩, ⟨(by decide : (-9223372036854775808 : Int) ≤ 6), (by decide : (6 : Int) ≤ 9223372036854775807)⟩⟩⟩
          obtain ⟨g9, c9, W9, ap, S9⟩ := Sep.appCr (L := CL) (mkC x k) (v := .slice aC mC kC) (by
            rw [HM.out.2.1]
            exact (fr1 [_, _, _, _, _, _, _, _] (fr1 [_, _, _, _, _, _, _] (fr1 [_, _, _, _, _, _, _, _] (fr1 [_, _, _, _, _] (fr1 [_, _, _, _, _, _, _, _] (fr1 [_, _, _, _, _, _, _, _] (fr1 [_, _, _, _, _, _, _, _] (fr1 [_, _, _, _, _, _, _, _] (fr1 [_, _, _, _, _, _, _, _] HL.out)))))))))) (by rw [HM.out.2.1]; have := HM.out.2.2.2.1; omega)
          rw [HM.out.2.1] at ap S9
          have AP := Keep.mk ap
          have HG := Keep.mk (bslc (mkC x k))
          have HBC := Keep.mk (builtC x k)
          have HBV := Keep.mk (built24b 9 k)
          have z1 := (S9.boxGet k1m).cellv 1 _ rfl
          have y1 := (S9.boxGet k1m).frozen 1
          have S10 := S9.swap.boxPut 1 (sl g9 (mC + 1) c9)
          have HE : Keep (Sep W (W9.setCell ⟨tb, 1, none⟩ (sl g9 (mC + 1) c9)) (boxA tb [.int .u64 tick, sl g9 (mC + 1) c9, .slice aS mS kS, iv n5] 37 :: rowV 26 14 (sl g9 (mC + 1) c9) (mC + 1) (fl crv (CL ++ [mkC x k])) :: rowV 46 7 (.slice aS mS kS) mS (fl shv (SL)) :: boxA ob (crv own) 26 :: boxA vb (vwv tick own (.slice (some ⟨gT, 0, none⟩) n cT)) 29 :: rowV 33 5 (.slice (some ⟨gT, 0, none⟩) n cT) n (fl snv T) :: boxA b3 [iv p, iv rad, iv sho] 39 :: boxA b2 [.int .u64 tick, vc, vs, iv nx] 37 :: [])) := ⟨by
            have e : (CL ++ [mkC x k]).length = mC + 1 := by rw [List.length_append, HM.out.2.1]; rfl
            rw [e] at S10
            exact Sep.dropM [_, _, _] [_] S10⟩
          have HM2 : Keep (Made (T.drop k) (CL ++ [mkC x k]) SL ∧ (CL ++ [mkC x k]).length = mC + 1 ∧ SL.length = mS ∧ mC + 1 + mS ≤ 32 - k ∧ (∀ c ∈ CL ++ [mkC x k], CrOk c) ∧ ∀ s ∈ SL, ShOk s) := ⟨by
            refine ⟨by rw [HXO.out.2.2]; exact HMD.out, by rw [List.length_append, HM.out.2.1]; rfl, HM.out.2.2.1, by have := HM.out.2.2.2.1; have := HNT.out; have := HKN.out; omega, fun c hc => ?_, HM.out.2.2.2.2.2⟩
            rcases List.mem_append.1 hc with q | q
            · exact HM.out.2.2.2.2.1 c q
            · rw [List.mem_singleton] at q; subst q; exact HCK.out⟩
          clear S9 S10 HL hkd HMD ap
          go_wp2_with (first
            | (with_reducible show wpList _ _ _ ({ dst := some 86, op := Op.load 24 _, type := _, pos := _, after := _, guard := _ } :: _) _ _
               refine wpList_load_mid rfl 24 _ rfl _ _ rfl ([iv x.x, iv x.y]) _ HRW.out hdw.1 hdw.2 info24 ?_)
            | (with_reducible show wpList _ _ _ ({ dst := some 88, op := Op.build 24 _, type := _, pos := _, after := _, guard := _ } :: _) _ _
               refine wpList_build rfl 24 _ rfl #[iv 9, iv k] ((congrArg (Tryz.prog.built 24) (by first | (simp only [List.map_toArray, List.map_cons, List.map_nil, Act.eval]; done) | (simp only [List.map_toArray, List.map_cons, List.map_nil, Act.eval]; with_reducible rfl) | (simp only [List.map_toArray, List.map_cons, List.map_nil, Act.eval]; rfl))).trans HBV.out) ?_
               simp only [Act.put, List.setIfInBounds_toArray, List.set_cons_zero, List.set_cons_succ])
            | (with_reducible show wpList _ _ _ ({ dst := some 94, op := Op.build 26 _, type := _, pos := _, after := _, guard := _ } :: _) _ _
               refine wpList_build rfl 26 _ rfl (crv (mkC x k)).toArray ((congrArg (Tryz.prog.built 26) (by first | (simp only [List.map_toArray, List.map_cons, List.map_nil, Act.eval]; done) | (simp only [List.map_toArray, List.map_cons, List.map_nil, Act.eval]; with_reducible rfl) | (simp only [List.map_toArray, List.map_cons, List.map_nil, Act.eval]; rfl))).trans HBC.out) ?_
               simp only [Act.put, List.setIfInBounds_toArray, List.set_cons_zero, List.set_cons_succ])
            | (with_reducible show wpList _ _ _ ({ dst := some 95, op := Op.buildSlice 34 _ _, type := _, pos := _, after := _, guard := _ } :: _) _ _
               refine wpList_bs_run rfl (.tmp 94) 34 rfl _ rfl (HG.out _) ?_)
            | (with_reducible show wpList _ _ _ ({ dst := some 96, op := Op.call { callee := Callee.builtin Builtin.append, args := _, argTypes := _ }, type := _, pos := _, after := _, guard := _ } :: _) _ _
               refine wpList_append_run _ rfl (.tmp 82) (.tmp 95) 34 rfl _ _ rfl rfl AP.out ?_))
          go_roundw
          case rel => exact ⟨k, mC + 1, mS, c9, kS, some ⟨g9, 0, none⟩, aS, CL ++ [mkC x k], SL, Nat.le_of_lt HKN.out, rfl, HM2, HE⟩
          case measure => simp [intOf]
        · have k1 : (x.kd == 1) = false := by simp [hkd]
          have k2 : decide (x.kd = 1) = false := by simp [hkd]
          have hk2 : x.kd = 2 ∧ x.hd = 0 := by
            rcases HXO.out.2.1 with q | q
            · exact absurd q hkd
            · exact q
          have HMD := Keep.mk (HM.out.1.sho hk2 (k : Int))
          have HCK : Keep (ShOk (mkS x k)) := ⟨by
            have o := HXO.out.1
            have := HNT.out
            have := HKN.out
            exact ⟨o.id, ⟨(by omega : (-9223372036854775808 : Int) ≤ (k : Int)), (by omega : (k : Int) ≤ 9223372036854775807)⟩, o.x, o.y, ⟨(by decide : (-9223372036854775808 : Int) ≤ 1), (by decide : (1 : Int) ≤ 9223372036854775807)⟩, ⟨(by decide : (-9223372036854775808 : Int) ≤ 0), (by decide : (0 : Int) ≤ 9223372036854775807)⟩, ⟨(by omega : (-9223372036854775808 : Int) ≤ -(k : Int)), (by omega : -(k : Int) ≤ 9223372036854775807)⟩⟩⟩
          obtain ⟨g9, c9, W9, ap, S9⟩ := Sep.appSh (L := SL) (mkS x k) (v := .slice aS mS kS) (by
            rw [HM.out.2.2.1]
            exact (fr1 [_, _, _, _, _, _, _, _] (fr1 [_, _, _, _, _, _, _] (fr1 [_, _, _, _, _, _, _] (fr1 [_, _, _, _, _] (fr1 [_, _, _, _, _, _, _, _] (fr1 [_, _, _, _, _, _, _, _] (fr1 [_, _, _, _, _, _, _, _] (fr1 [_, _, _, _, _, _, _, _] (fr1 [_, _, _, _, _, _, _, _] HL.out)))))))))) (by rw [HM.out.2.2.1]; have := HM.out.2.2.2.1; omega)
          rw [HM.out.2.2.1] at ap S9
          have AP := Keep.mk ap
          have HG := Keep.mk (bsls (mkS x k))
          have HBC := Keep.mk (builtS x k)
          have HBV := Keep.mk (bv 1)
          have z1 := (S9.boxGet k1m).cellv 2 _ rfl
          have y1 := (S9.boxGet k1m).frozen 2
          have S10 := S9.swap.boxPut 2 (sl g9 (mS + 1) c9)
          have HE : Keep (Sep W (W9.setCell ⟨tb, 2, none⟩ (sl g9 (mS + 1) c9)) (boxA tb [.int .u64 tick, .slice aC mC kC, sl g9 (mS + 1) c9, iv n5] 37 :: rowV 26 14 (.slice aC mC kC) mC (fl crv (CL)) :: rowV 46 7 (sl g9 (mS + 1) c9) (mS + 1) (fl shv (SL ++ [mkS x k])) :: boxA ob (crv own) 26 :: boxA vb (vwv tick own (.slice (some ⟨gT, 0, none⟩) n cT)) 29 :: rowV 33 5 (.slice (some ⟨gT, 0, none⟩) n cT) n (fl snv T) :: boxA b3 [iv p, iv rad, iv sho] 39 :: boxA b2 [.int .u64 tick, vc, vs, iv nx] 37 :: [])) := ⟨by
            have e : (SL ++ [mkS x k]).length = mS + 1 := by rw [List.length_append, HM.out.2.2.1]; rfl
            rw [e] at S10
            have q := Sep.dropM [_, _, _] [_] S10
            exact q.perm (List.Perm.cons _ (List.Perm.swap _ _ _))⟩
          have HM2 : Keep (Made (T.drop k) CL (SL ++ [mkS x k]) ∧ CL.length = mC ∧ (SL ++ [mkS x k]).length = mS + 1 ∧ mC + (mS + 1) ≤ 32 - k ∧ (∀ c ∈ CL, CrOk c) ∧ ∀ s ∈ SL ++ [mkS x k], ShOk s) := ⟨by
            refine ⟨by rw [HXO.out.2.2]; exact HMD.out, HM.out.2.1, by rw [List.length_append, HM.out.2.2.1]; rfl, by have := HM.out.2.2.2.1; have := HNT.out; have := HKN.out; omega, HM.out.2.2.2.2.1, fun c hc => ?_⟩
            rcases List.mem_append.1 hc with q | q
            · exact HM.out.2.2.2.2.2 c q
            · rw [List.mem_singleton] at q; subst q; exact HCK.out⟩
          clear S9 S10 HL hkd HMD ap hk2
          go_wp2_with (first
            | (with_reducible show wpList _ _ _ ({ dst := some 104, op := Op.load 24 _, type := _, pos := _, after := _, guard := _ } :: _) _ _
               refine wpList_load_mid rfl 24 _ rfl _ _ rfl ([iv x.x, iv x.y]) _ HRW.out hdw.1 hdw.2 info24 ?_)
            | (with_reducible show wpList _ _ _ ({ dst := some 105, op := Op.build 24 _, type := _, pos := _, after := _, guard := _ } :: _) _ _
               refine wpList_build rfl 24 _ rfl #[iv 1, iv 0] ((congrArg (Tryz.prog.built 24) (by first | (simp only [List.map_toArray, List.map_cons, List.map_nil, Act.eval]; done) | (simp only [List.map_toArray, List.map_cons, List.map_nil, Act.eval]; with_reducible rfl) | (simp only [List.map_toArray, List.map_cons, List.map_nil, Act.eval]; rfl))).trans HBV.out) ?_
               simp only [Act.put, List.setIfInBounds_toArray, List.set_cons_zero, List.set_cons_succ])
            | (with_reducible show wpList _ _ _ ({ dst := some 108, op := Op.build 46 _, type := _, pos := _, after := _, guard := _ } :: _) _ _
               refine wpList_build rfl 46 _ rfl (shv (mkS x k)).toArray ((congrArg (Tryz.prog.built 46) (by first | (simp only [List.map_toArray, List.map_cons, List.map_nil, Act.eval]; done) | (simp only [List.map_toArray, List.map_cons, List.map_nil, Act.eval]; with_reducible rfl) | (simp only [List.map_toArray, List.map_cons, List.map_nil, Act.eval]; rfl))).trans HBC.out) ?_
               simp only [Act.put, List.setIfInBounds_toArray, List.set_cons_zero, List.set_cons_succ])
            | (with_reducible show wpList _ _ _ ({ dst := some 109, op := Op.buildSlice 35 _ _, type := _, pos := _, after := _, guard := _ } :: _) _ _
               refine wpList_bs_run rfl (.tmp 108) 35 rfl _ rfl (HG.out _) ?_)
            | (with_reducible show wpList _ _ _ ({ dst := some 110, op := Op.call { callee := Callee.builtin Builtin.append, args := _, argTypes := _ }, type := _, pos := _, after := _, guard := _ } :: _) _ _
               refine wpList_append_run _ rfl (.tmp 99) (.tmp 109) 35 rfl _ _ rfl rfl AP.out ?_))
          go_roundw
          case rel => exact ⟨k, mC, mS + 1, kC, c9, aC, some ⟨g9, 0, none⟩, CL, SL ++ [mkS x k], Nat.le_of_lt HKN.out, rfl, HM2, HE⟩
          case measure => simp [intOf]
      | zero =>
        have ek : ((0 : Nat) : Int) - 1 = -1 := by omega
        rw [ek]
        have HMT : Keep (Made T CL SL) := ⟨by have q := HM.out.1; rwa [List.drop_zero] at q⟩
        have t1 := (HB.out.boxGet k0m).cellv 1 _ rfl
        have HRO := Keep.mk ((HB.out.boxGet k3m).range)
        obtain ⟨g9, c9, W9, ap, S9⟩ := Sep.appCr (L := CL) own (v := .slice aC mC kC) (by rw [HM.out.2.1]; exact HB.out.swap) (by rw [HM.out.2.1]; have := HM.out.2.2.2.1; omega)
        rw [HM.out.2.1] at ap S9
        have AP := Keep.mk ap
        have HG := Keep.mk (bslc own)
        have z1 := (S9.boxGet k1m).cellv 1 _ rfl
        have y1 := (S9.boxGet k1m).frozen 1
        have S10 := S9.swap.boxPut 1 (sl g9 (mC + 1) c9)
        obtain ⟨W10, hW10⟩ : ∃ w, W9.setCell ⟨tb, 1, none⟩ (sl g9 (mC + 1) c9) = w := ⟨_, rfl⟩
        rw [hW10] at S10
        have e : (CL ++ [own]).length = mC + 1 := by rw [List.length_append, HM.out.2.1]; rfl
        rw [e] at S10
        have HB10 : Keep (Sep W W10 (boxA tb [.int .u64 tick, sl g9 (mC + 1) c9, .slice aS mS kS, iv n5] 37 :: rowV 26 14 (sl g9 (mC + 1) c9) (mC + 1) (fl crv (CL ++ [own])) :: rowV 46 7 (.slice aS mS kS) mS (fl shv (SL)) :: boxA ob (crv own) 26 :: boxA vb (vwv tick own (.slice aT n cT)) 29 :: rowV 33 5 (.slice aT n cT) n (fl snv T) :: boxA b3 [iv p, iv rad, iv sho] 39 :: boxA b2 [.int .u64 tick, vc, vs, iv nx] 37 :: [])) := ⟨S10⟩
        have HR10 : Keep (W10.rangeAt tb 0 [.int .u64 tick, sl g9 (mC + 1) c9, .slice aS mS kS, iv n5]) := ⟨(HB10.out.boxGet k0m).range⟩
        have a0 := (HB10.out.boxGet (List.mem_cons_of_mem _ k5m)).cellv 0 _ rfl
        have a1 := (HB10.out.boxGet (List.mem_cons_of_mem _ k5m)).cellv 1 _ rfl
        have a2 := (HB10.out.boxGet (List.mem_cons_of_mem _ k5m)).cellv 2 _ rfl
        have HST : Keep (StO W10 (sl g9 (mC + 1) c9) (.slice aS mS kS) (CL ++ [own]) SL) := ⟨by
          have h1 : rowV 26 14 (sl g9 (mC + 1) c9) (CL ++ [own]).length (fl crv (CL ++ [own])) ∈ boxA tb [.int .u64 tick, sl g9 (mC + 1) c9, .slice aS mS kS, iv n5] 37 :: rowV 26 14 (sl g9 (mC + 1) c9) (mC + 1) (fl crv (CL ++ [own])) :: rowV 46 7 (.slice aS mS kS) mS (fl shv (SL)) :: boxA ob (crv own) 26 :: boxA vb (vwv tick own (.slice aT n cT)) 29 :: rowV 33 5 (.slice aT n cT) n (fl snv T) :: boxA b3 [iv p, iv rad, iv sho] 39 :: boxA b2 [.int .u64 tick, vc, vs, iv nx] 37 :: [] := by rw [e]; exact k1m
          have h2 : rowV 46 7 (.slice aS mS kS) SL.length (fl shv SL) ∈ boxA tb [.int .u64 tick, sl g9 (mC + 1) c9, .slice aS mS kS, iv n5] 37 :: rowV 26 14 (sl g9 (mC + 1) c9) (mC + 1) (fl crv (CL ++ [own])) :: rowV 46 7 (.slice aS mS kS) mS (fl shv (SL)) :: boxA ob (crv own) 26 :: boxA vb (vwv tick own (.slice aT n cT)) 29 :: rowV 33 5 (.slice aT n cT) n (fl snv T) :: boxA b3 [iv p, iv rad, iv sho] 39 :: boxA b2 [.int .u64 tick, vc, vs, iv nx] 37 :: [] := by rw [HM.out.2.2.1]; exact k2m
          have := HM.out.2.2.2.1
          refine ⟨Ls.own crv_len HB10.out h1, Ls.own shv_len HB10.out h2, fun c hc => ?_, HM.out.2.2.2.2.2, by rw [e]; omega, by rw [HM.out.2.2.1]; omega, by rw [e, HM.out.2.2.1]; omega⟩
          rcases List.mem_append.1 hc with q | q
          · exact HM.out.2.2.2.2.1 c q
          · rw [List.mem_singleton] at q; subst q; exact HOC.out.1⟩
        have HFO : Keep ((CL ++ [own]).find? (fun c => c.pl == p) = some own) := ⟨find_app (key := fun c : Cr => c.pl) (fun c hc q => by
          have h1 : carS c ∈ (T.filter (fun t => decide (t.kd = 1))).reverse := by rw [← HMT.out.c]; exact List.mem_map_of_mem hc
          exact HT.out.notO _ (List.mem_filter.1 (List.mem_reverse.1 h1)).1 rfl q) p HOC.out.2⟩
        clear S9 S10 HB ap v15 hj
        go_wp2_with (first
          | (with_reducible show wpList _ _ _ ({ dst := some 114, op := Op.load 26 _, type := _, pos := _, after := _, guard := _ } :: _) _ _
             refine wpList_load_mid rfl 26 _ rfl _ _ rfl (crv own) _ HRO.out hdc.1 hdc.2 info26 ?_)
          | (with_reducible show wpList _ _ _ ({ dst := some 115, op := Op.buildSlice 34 _ _, type := _, pos := _, after := _, guard := _ } :: _) _ _
             refine wpList_bs_run rfl (.tmp 114) 34 rfl _ rfl (HG.out _) ?_)
          | (with_reducible show wpList _ _ _ ({ dst := some 116, op := Op.call { callee := Callee.builtin Builtin.append, args := _, argTypes := _ }, type := _, pos := _, after := _, guard := _ } :: _) _ _
             refine wpList_append_run _ rfl (.tmp 113) (.tmp 115) 34 rfl _ _ rfl rfl AP.out ?_)
          | (with_reducible show wpList _ _ _ ({ dst := some 119, op := Op.load 37 _, type := _, pos := _, after := _, guard := _ } :: _) _ _
             refine wpList_load_mid rfl 37 _ rfl _ _ rfl ([.int .u64 tick, sl g9 (mC + 1) c9, .slice aS mS kS, iv n5]) _ HR10.out hds.1 hds.2 info37 ?_))
        clear hW10 t1 z1 y1 a0 a1 a2
        refine (of_c W10 tick n5 p rad sho (sl g9 (mC + 1) c9) (.slice aS mS kS) (CL ++ [own]) SL HST.out).mono ?_
        rintro e W11 hOf
        obtain ⟨v2, T2, rfl, hT2, S11⟩ := hOf.yes own HFO.out
        obtain rfl : T2 = T := HT.out.made HMT.out hT2
        obtain ⟨a2, c2, rfl⟩ := own_slice (S11.rowGet k0m)
        rw [HTN.out] at S11 ⊢
        have S12 := HB10.out.join S11
        have HB12 := Keep.mk S12
        have HV2 := Keep.mk (vwv_one tick own (.slice a2 n c2) ⟨_, _, _, rfl⟩)
        clear S11 S12 hOf HB10 HR10 hT2
        go_wp2_with (first
          | (with_reducible show wpList _ _ _ ({ dst := _, op := Op.store 29 _ _, type := _, pos := _, after := _, guard := _ } :: _) _ _
             refine store_new W11 (vwv tick own (.slice a2 n c2)) 29 rfl rfl rfl rfl rfl info29 HV2.out ?_))
        intro W13 hS13 g13
        obtain ⟨nb, hnb⟩ : ∃ b, W11.heap.size = b := ⟨_, rfl⟩
        have S13 := hS13 _ _ HB12.out
        rw [hnb] at S13 ⊢
        have HB13 := Keep.mk S13
        have HQA := Keep.mk ((S13.boxGet (List.mem_cons_of_mem _ (List.mem_cons_of_mem _ k4m))).range)
        have HQC := Keep.mk ((S13.boxGet k0m).range)
        have HLA : Keep (Ls snv 5 W13 (.slice aT n cT) T2) := ⟨Ls.own snv_len S13 (by rw [HTN.out]; exact List.mem_cons_of_mem _ (List.mem_cons_of_mem _ k5m))⟩
        have HLB : Keep (Ls snv 5 W13 (.slice a2 n c2) T2) := ⟨Ls.own snv_len S13 (by rw [HTN.out]; exact k1m)⟩
        clear S13 hS13 g13 HB12 hnb
        go_wp2_with (first
          | (with_reducible show wpList _ _ _ ({ dst := some 132, op := Op.load 29 _, type := _, pos := _, after := _, guard := _ } :: _) _ _
             refine load_g rfl 29 _ rfl _ _ rfl (vwv tick own (.slice aT n cT)) _ HQA.out hdv.1 hdv.2 info29 ?_)
          | (with_reducible show wpList _ _ _ ({ dst := some 133, op := Op.load 29 _, type := _, pos := _, after := _, guard := _ } :: _) _ _
             refine load_g rfl 29 _ rfl _ _ rfl (vwv tick own (.slice a2 n c2)) _ HQC.out hdv.1 hdv.2 info29 ?_))
        refine (eq_t W13 tick tick own own (.slice aT n cT) (.slice a2 n c2) T2 T2 HLA.out HLB.out (by rw [HTN.out]; have := HNT.out; omega) ⟨rfl, rfl, rfl⟩).mono ?_
        rintro e W14 ⟨rfl, g14⟩
        have HG := Keep.mk (HB13.out.g.trans g14)
        clear g14
        go_wp2_with fail
        go_ret
        exact ⟨rfl, HG.out⟩
end Go.Proofs.YtgedlabmndlooaaGreat
