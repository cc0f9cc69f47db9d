/- view: All -/
import Derived.Test.YtgedlabmndlooaaGreatE7
namespace Go.Proofs.YtgedlabmndlooaaGreat
open Go Go.RowKit Go.Maps Go.Shelf Go.Lib Go.Sort

/-- a view that is told: its car, where what is seen lies, what is seen -/
abbrev Vt := Cr × Value × List Sn
def vwE (tick : Int) (q : Vt) : List Value := vwv tick q.1 q.2.1
def rwE (q : Vt) : As := rowV 33 5 q.2.1 q.2.2.length (fl snv q.2.2)
theorem vwE_len (tick : Int) (q : Vt) : (vwE tick q).length = 16 := rfl
theorem bsV (t : Int) (own : Cr) (v : Value) (hv : ∃ a n c, v = .slice a n c) (W : World) : (Instr.buildSlice 52 1 #[(0, .agg (vwv t own v).toArray)]).run Tryz.prog W = .ok (sl W.heap.size 1 1) (W.alloc (.cells (vwv t own v).toArray 29)) := by
  obtain ⟨a, n, c, rfl⟩ := hv
  kernel_rfl
theorem infoV : ∃ i, Tryz.prog.info? 29 = some i ∧ i.size = 16 ∧ i.bytes = 152 ∧ i.zero = some (.agg zvw.toArray) := by
  have h : (Tryz.prog.info? 29).map (fun i => (i.size, i.bytes, i.zero)) = some (16, 152, some (.agg zvw.toArray)) := by kernel_rfl
  cases e : Tryz.prog.info? 29 with
  | none => rw [e] at h; cases h
  | some i =>
    rw [e] at h
    simp only [Option.map_some, Option.some.injEq, Prod.mk.injEq] at h
    exact ⟨i, rfl, h.1, h.2.1, h.2.2⟩
theorem Sep.appV {w0 W : World} {l : List As} {v : Value} {Vs : List Vt} {tick : Int} (q : Vt) (hq : ∃ a n c, q.2.1 = .slice a n c) (h : Sep w0 W (rowV 29 16 v Vs.length (fl (vwE tick) Vs) :: l)) (hn : (Vs.length + 1) * 152 ≤ 140737488355328) :
    ∃ g c W', (Builtin.append_ #[52, 52] 52 #[v, sl W.heap.size 1 1]).run Tryz.prog (W.alloc (.cells (vwv tick q.1 q.2.1).toArray 29)) = .ok (sl g (Vs.length + 1) c) W' ∧ Sep w0 W' (rowV 29 16 (sl g (Vs.length + 1) c) (Vs ++ [q]).length (fl (vwE tick) (Vs ++ [q])) :: l) := by
  obtain ⟨i, i1, i2, i3, i4⟩ := infoV
  obtain ⟨g, c, W', r, S⟩ := Sep.app (t := 52) (bytes := 152) Tryz.underlying52 i1 i4 i2 i3 rfl (by decide) h (vwv tick q.1 q.2.1) rfl (vwv_one tick q.1 q.2.1 hq) hn (by decide)
  refine ⟨g, c, W', r, ?_⟩
  rw [fl_app, List.length_append, List.length_singleton, show fl (vwE tick) [q] = vwv tick q.1 q.2.1 by simp [fl, vwE]]
  exact S
theorem wpList_bs_run {P : Program} {w : World} {ops : Array Oper} {rest : List Oper} {o : Oper} {a : Act} {Q : Exit → Act → World → Prop} (hgd : o.guard = none) (x : Operand) (t : TypeId)
    (ho : o.op = .buildSlice t 1 #[(0, x)]) (v : Value) (hx : a.eval x = v) {v' : Value} {w' : World}
    (hr : (Instr.buildSlice t 1 #[(0, v)]).run P w = .ok v' w') (h : wpList P ops Q rest (a.put o.dst v') w') : wpList P ops Q (o :: rest) a w :=
  wpList_plain hgd fun _ hK => by
    unfold Oper.wp execOp
    simp only [ho, Sem.run_bind, Sem.run_pure, Result.andThen_ok, List.map_toArray, List.map_cons, List.map_nil, hx, hr]
    exact hK _ _ h
/-- what All answers -/
structure AlR (W W' : World) (tick : Int) (LC : List Cr) (LS : List Sh) (radius sho : Int) (v : Value) : Prop where
  o : ∃ (C : List Cr) (Vs : List Vt), Fst1 (fun c : Cr => c.pl) LC C ∧ C.length ≤ LC.length ∧ Vs.map (·.1) = C ∧ (∀ q ∈ Vs, Tld LC LS radius sho q.1 q.2.2 ∧ ∃ a n c, q.2.1 = .slice a n c) ∧ Sep W W' (rowV 29 16 v Vs.length (fl (vwE tick) Vs) :: Vs.map rwE)
set_option maxRecDepth 100000 in
set_option maxHeartbeats 16000000 in
theorem all_c (W : World) (tick nx radius sho : Int) (vc vs : Value) (LC : List Cr) (LS : List Sh) (hS : StO W vc vs LC LS) (hv : (LC.length + 1) * 152 ≤ 140737488355328) :
    Calls Tryz.prog 18 #[.agg #[.int .u64 tick, vc, vs, iv nx], iv radius, iv sho] W fun e W' => ∃ v, e = .returned v ∧ AlR W W' tick LC LS radius sho v := by
  have HS0 := Keep.mk hS
  have HV := Keep.mk hv
  obtain ⟨ds, hds⟩ := under37
  obtain ⟨dc, hdc⟩ := under26
  have S1 := (Sep.nil W).newBox #[.int .u64 tick, vc, vs, iv nx] 37
  obtain ⟨bs, hbs⟩ : ∃ b, W.heap.size = b := ⟨_, rfl⟩
  obtain ⟨Wa, hWa⟩ : ∃ w, W.alloc (.cells #[.int .u64 tick, vc, vs, iv nx] 37) = w := ⟨_, rfl⟩
  rw [hWa, hbs] at S1
  have HA : Keep (Sep W Wa [boxA bs [.int .u64 tick, vc, vs, iv nx] 37]) := ⟨S1⟩
  have HST := Keep.mk ((HA.out.boxGet k0m).range)
  clear S1 hS hv
  go_enter Tryz.func18, Tryz.ntmps18
  go_wp2_with (
    (show wpList _ _ _ ({ dst := some 11, op := Op.load 37 _, type := _, pos := _, after := _, guard := _ } :: _) _ _
     refine wpList_load_mid rfl 37 _ rfl _ _ rfl _ _ HST.out hds.1 hds.2 info37 ?_))
  clear hWa hbs
  have hK := HS0.out.kept HA.out.g
  refine (scene_c Wa tick nx radius sho vc vs LC LS hK.c hK.s hK.bc hK.bs hK.bb hK.oc hK.os).mono ?_
  rintro e W2 ⟨sb, rfl, q2⟩
  obtain ⟨C, S, vC, vT, gb, sd, f1, f2, f3, f4, S2⟩ := q2.o
  have HF := Keep.mk (And.intro f1 (And.intro f2 (And.intro f3 f4)))
  obtain ⟨aC, cC, rfl⟩ := own_slice (S2.rowGet k3m)
  obtain ⟨n, hn⟩ : ∃ n, C.length = n := ⟨_, rfl⟩
  have HN := Keep.mk hn
  have HB : Keep (Sep W W2 (rowV 29 16 (.slice none 0 0) 0 (fl (vwE tick) ([])) :: boxA sb [.int .u64 tick, iv (65536 * kpZ radius 1024), iv (kpZ sho 32), (.slice aC n cC), vT, pt gb] 80 :: rowV 33 5 vT (seenC C ++ S.map shoS).length (fl snv (seenC C ++ S.map shoS)) :: gridA gb sd (plM (seenC C ++ S.map shoS)) :: rowV 26 14 (.slice aC n cC) n (fl crv C) :: (([]).map rwE ++ [boxA bs [.int .u64 tick, vc, vs, iv nx] 37]))) := ⟨by
    have q := (HA.out.join S2).nilV 29 16
    rw [hn] at q
    exact q⟩
  have c3 := (HB.out.boxGet k1m).cellv 3 _ rfl
  rw [hn] at S2
  clear S2 q2 HA f1 f2 f3 f4 hn HST hK
  go_wp2_with fail
  clear c3
  go_loopw [8, 10, 20] (fun u8 u10 u20 wr => ∃ (i : Nat) (Vs : List Vt), i ≤ n ∧ u20 = iv i ∧ (∃ a c, u8 = .slice a i c) ∧ Keep (Vs.map (·.1) = C.take i) ∧ Keep (∀ q ∈ Vs, Tld LC LS radius sho q.1 q.2.2 ∧ ∃ a n c, q.2.1 = .slice a n c) ∧ Keep (Sep W wr (rowV 29 16 (u8) i (fl (vwE tick) (Vs)) :: boxA sb [.int .u64 tick, iv (65536 * kpZ radius 1024), iv (kpZ sho 32), (.slice aC n cC), vT, pt gb] 80 :: rowV 33 5 vT (seenC C ++ S.map shoS).length (fl snv (seenC C ++ S.map shoS)) :: gridA gb sd (plM (seenC C ++ S.map shoS)) :: rowV 26 14 (.slice aC n cC) n (fl crv C) :: ((Vs).map rwE ++ [boxA bs [.int .u64 tick, vc, vs, iv nx] 37])))) (fun _ _ u20 _ => (n - intOf u20).toNat)
  case atStart => exact ⟨0, [], by omega, rfl, ⟨_, _, rfl⟩, ⟨rfl⟩, ⟨fun q hq => by cases hq⟩, HB⟩
  case round =>
    clear HB
    obtain ⟨i, Vs, hi, rfl, ⟨av, cv, rfl⟩, HM, HQ, HB⟩ := hrel
    have HVL : Keep (Vs.length = i) := ⟨by
      have q := congrArg List.length HM.out
      rw [List.length_map, List.length_take, HN.out] at q
      omega⟩
    by_cases hlt : i < n
    · have hlt1 : (i : Int) < (n : Int) := by omega
      have hi0 : (0 : Int) ≤ (i : Int) := by omega
      have hit : ((i : Nat) : Int).toNat = i := by omega
      have hnn : n ≤ 281474976710656 := by have := HF.out.2.2.1; have := HS0.out.bc; have := HN.out; omega
      have hiw : IntKind.i64.wrap ((i : Int) + 1) = ((i + 1 : Nat) : Int) := by rw [IntKind.wrap_i64]; omega
      obtain ⟨c, hc⟩ : ∃ c, C[i]? = some c := ⟨_, List.getElem?_eq_getElem (by rw [HN.out]; exact hlt)⟩
      obtain ⟨gC, rfl⟩ : ∃ g, aC = some ⟨g, 0, none⟩ := by
        obtain ⟨g, c', e, _⟩ := own_any (HB.out.rowGet k4m) (by omega)
        injection e with e1 _ _
        exact ⟨g, e1⟩
      have HRG : Keep (wr.rangeAt gC (i * 14) (crv c)) := ⟨fl_range crv_len (HB.out.rowGet k4m) (by omega) i c hc⟩
      have HCO : Keep (CrOk c) := ⟨HS0.out.oc c (by
        have q := (HF.out.1.2 c).1 (List.mem_of_getElem? hc)
        exact List.mem_of_find?_eq_some q)⟩
      have HTK : Keep (C.take (i + 1) = C.take i ++ [c]) := ⟨by rw [List.take_add_one, hc]; rfl⟩
      have HLT := Keep.mk hlt
      have HON : Keep (∀ v ∈ crv c, v.oneCell' = true) := ⟨crv_one c⟩
      clear hc hlt hi hnn
      go_wp2_with (first
        | (show wpList _ _ _ ({ dst := some 23, op := Op.load 26 _, type := _, pos := _, after := _, guard := _ } :: _) _ _
           refine wpList_load_mid rfl 26 _ rfl _ _ rfl _ _ HRG.out hdc.1 hdc.2 info26 ?_)
        | (show wpList _ _ _ ({ dst := _, op := Op.store 26 _ _, type := _, pos := _, after := _, guard := _ } :: _) _ _
           refine store_new wr (crv c) 26 rfl rfl rfl rfl rfl info26 HON.out ?_))
      intro w6 hS6 g6
      obtain ⟨cb, hcb⟩ : ∃ b, wr.heap.size = b := ⟨_, rfl⟩
      have S6 := hS6 _ _ HB.out
      rw [hcb] at S6 ⊢
      have HR6 := Keep.mk ((S6.boxGet k0m).range)
      have HL : Keep (Sep W w6 (boxA sb [.int .u64 tick, iv (65536 * kpZ radius 1024), iv (kpZ sho 32), (.slice (some ⟨gC, 0, none⟩) n cC), vT, pt gb] 80 :: rowV 33 5 vT (seenC C ++ S.map shoS).length (fl snv (seenC C ++ S.map shoS)) :: gridA gb sd (plM (seenC C ++ S.map shoS)) :: rowV 26 14 (.slice (some ⟨gC, 0, none⟩) n cC) n (fl crv C) :: rowV 29 16 (.slice av i cv) i (fl (vwE tick) Vs) :: boxA cb (crv c) 26 :: (Vs.map rwE ++ [boxA bs [.int .u64 tick, vc, vs, iv nx] 37]))) := ⟨(fr1 [_, _, _, _, _] (fr1 [_, _, _, _, _] (fr1 [_, _, _, _, _] (fr1 [_, _, _, _, _] (fr1 [_] S6)))))⟩
      clear hS6 g6 S6 HB hcb HRG
      go_wp2_with (
        (show wpList _ _ _ ({ dst := some 26, op := Op.load 26 _, type := _, pos := _, after := _, guard := _ } :: _) _ _
         refine wpList_load_mid rfl 26 _ rfl _ _ rfl _ _ HR6.out hdc.1 hdc.2 info26 ?_))
      refine (view_c W w6 _ sb gb (.slice (some ⟨gC, 0, none⟩) n cC) vT tick (65536 * kpZ radius 1024) (kpZ sho 32) sd (seenC C ++ S.map shoS) c HCO.out (kpZ_in sho 32 (by decide)) (lay_len HF.out.2.2.1 HF.out.2.2.2 HS0.out.bb) HL.out).mono ?_
      rintro e w7 ⟨v7, rfl, q7⟩
      obtain ⟨T7, p1, p2, S7⟩ := q7.o
      have HSL : Keep (∃ a n c, v7 = .slice a n c) := ⟨by obtain ⟨a, c, e⟩ := own_slice (S7.rowGet k0m); exact ⟨_, _, _, e⟩⟩
      have HP : Keep (Tld LC LS radius sho c T7) := ⟨⟨⟨C, S, HF.out.1, HF.out.2.1, p1, p2⟩⟩⟩
      obtain ⟨g9, c9, W9, ap, S9⟩ := Sep.appV (Vs := Vs) (tick := tick) (c, v7, T7) HSL.out (v := .slice av i cv) (by
        rw [HVL.out]
        exact (fr1 [_, _, _, _, _, _] (fr1 [_, _, _, _, _, _] (fr1 [_, _, _, _] (fr1 [_, _, _, _] (fr1 [_, _, _, _] (fr1 [_, _, _, _] (fr1 [_, _, _, _] S7)))))))) (by rw [HVL.out]; have := HF.out.2.2.1; have := HN.out; have := HLT.out; have := HV.out; omega)
      rw [HVL.out] at ap S9
      have AP := Keep.mk ap
      have HG := Keep.mk (bsV tick c v7 HSL.out)
      have HM2 : Keep ((Vs ++ [(c, v7, T7)]).map (·.1) = C.take (i + 1)) := ⟨by rw [List.map_append, HM.out, HTK.out]; rfl⟩
      have HQ2 : Keep (∀ q ∈ Vs ++ [(c, v7, T7)], Tld LC LS radius sho q.1 q.2.2 ∧ ∃ a n c, q.2.1 = .slice a n c) := ⟨fun q hq => by
        rcases List.mem_append.1 hq with hq | hq
        · exact HQ.out q hq
        · rw [List.mem_singleton] at hq
          subst hq
          exact ⟨HP.out, HSL.out⟩⟩
      have HE : Keep (Sep W W9 (rowV 29 16 (sl g9 (i + 1) c9) (i + 1) (fl (vwE tick) (Vs ++ [(c, v7, T7)])) :: boxA sb [.int .u64 tick, iv (65536 * kpZ radius 1024), iv (kpZ sho 32), (sl gC n cC), vT, pt gb] 80 :: rowV 33 5 vT (seenC C ++ S.map shoS).length (fl snv (seenC C ++ S.map shoS)) :: gridA gb sd (plM (seenC C ++ S.map shoS)) :: rowV 26 14 (sl gC n cC) n (fl crv C) :: ((Vs ++ [(c, v7, T7)]).map rwE ++ [boxA bs [.int .u64 tick, vc, vs, iv nx] 37]))) := ⟨by
        have e1 : (Vs ++ [(c, v7, T7)]).length = i + 1 := by rw [List.length_append, HVL.out]; rfl
        rw [e1] at S9
        refine (Sep.dropM [_] [_] S9).perm ?_
        rw [List.map_append, List.append_assoc]
        exact List.Perm.cons _ (by
          refine (List.perm_middle (l₁ := [_, _, _, _]) (l₂ := Vs.map rwE ++ [_])).symm.trans ?_
          exact List.Perm.append_left [_, _, _, _] (by
            refine (List.perm_middle (l₁ := Vs.map rwE) (l₂ := [boxA bs [.int .u64 tick, vc, vs, iv nx] 37])).symm))⟩
      have HEV := Keep.mk HVL.out
      clear S9 HL p1 p2 q7 S7 ap HR6
      go_wp2_with (first
        | (show wpList _ _ _ ({ dst := some 28, op := Op.buildSlice 52 _ _, type := _, pos := _, after := _, guard := _ } :: _) _ _
           refine wpList_bs_run rfl (.tmp 27) 52 rfl _ rfl (HG.out _) ?_)
        | (show wpList _ _ _ ({ dst := some 29, op := Op.call { callee := Callee.builtin Builtin.append, args := _, argTypes := _ }, type := _, pos := _, after := _, guard := _ } :: _) _ _
           refine wpList_append_run _ rfl (.tmp 24) (.tmp 28) 52 rfl _ _ rfl rfl AP.out ?_))
      go_roundw
      case rel => exact ⟨i + 1, Vs ++ [(c, v7, T7)], HLT.out, rfl, ⟨_, _, rfl⟩, HM2, HQ2, HE⟩
      case measure => simp [intOf]; have := HLT.out; omega
    · have hlt1 : ¬ (i : Int) < (n : Int) := by omega
      have HE : Keep (AlR W wr tick LC LS radius sho (.slice av i cv)) := ⟨⟨C, Vs, HF.out.1, HF.out.2.2.1, by rw [HM.out, show i = C.length by rw [HN.out]; omega, List.take_length], HQ.out, by
        rw [HVL.out]
        have q := Sep.dropM [_] [_, _, _, _] HB.out
        refine (q.perm (List.Perm.cons _ (List.perm_append_comm (l₁ := Vs.map rwE) (l₂ := [_])))).swap.tail⟩⟩
      clear HB hlt hi
      go_wp2_with fail
      go_ret
      exact ⟨_, rfl, HE.out⟩
end Go.Proofs.YtgedlabmndlooaaGreat
