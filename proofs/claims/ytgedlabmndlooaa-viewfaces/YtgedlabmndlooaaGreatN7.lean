/- view: ViewFaces -/
import Derived.Test.YtgedlabmndlooaaGreatN6
namespace Go.Proofs.YtgedlabmndlooaaGreat
open Go Go.RowKit Go.Maps Go.Shelf Go.Lib Go.Sort

/-- a view that was told: tick, own car, its list -/
abbrev Qv := Int × Cr × Value × List Sn
def qE (q : Qv) : List Value := vwv q.1 q.2.1 q.2.2.1
def qA (q : Qv) : As := rowV 33 5 q.2.2.1 q.2.2.2.length (fl snv q.2.2.2)
theorem qE_len (q : Qv) : (qE q).length = 16 := rfl
theorem Sep.appQ {w0 W : World} {l : List As} {v : Value} {Qs : List Qv} {n : Nat} (q : Qv) (hq : ∃ a n c, q.2.2.1 = .slice a n c) (_ : Qs.length = n) (h : Sep w0 W (rowV 29 16 v n (fl qE Qs) :: l)) (hn : (n + 1) * 152 ≤ 140737488355328) :
    ∃ g c W', (Builtin.append_ #[52, 52] 52 #[v, sl W.heap.size 1 1]).run Tryz.prog (W.alloc (.cells (qE q).toArray 29)) = .ok (sl g (n + 1) c) W' ∧ Sep w0 W' (rowV 29 16 (sl g (n + 1) c) (n + 1) (fl qE (Qs ++ [q])) :: l) := by
  obtain ⟨i, i1, i2, i3, i4⟩ := infoV
  obtain ⟨g, c, W', r, S⟩ := Sep.app (t := 52) undW i1 i4 i2 i3 rfl (by decide) h (qE q) rfl (vwv_one _ _ _ hq) hn (by decide)
  refine ⟨g, c, W', r, ?_⟩
  rw [fl_app, show fl qE [q] = qE q by simp [fl]]
  exact S
def toQ (tick : Int) (q : Vt) : Qv := (tick, q.1, q.2.1, q.2.2)
theorem al_eq {LC C : List Cr} {LS : List Sh} {r s : Int} {Vs Vs2 : List Vt} (h1 : Vs.map (·.1) = C) (h2 : ∀ q ∈ Vs, Tld LC LS r s q.1 q.2.2) (k1 : Vs2.map (fun q => q.1) = C) (k2 : ∀ q ∈ Vs2, Told (ents LC LS q.1.pl) q.1.pl q.1.x q.1.y (65536 * kpZ r 1024) (kpZ s 32).toNat q.2.2) {i : Nat} {q q2 : Vt} (hq : Vs[i]? = some q) (hq2 : Vs2[i]? = some q2) : q.1 = q2.1 ∧ q.2.2 = q2.2.2 := by
  have e : q.1 = q2.1 := by
    have e1 : (Vs.map (·.1))[i]? = some q.1 := by rw [List.getElem?_map, hq]; rfl
    have e2 : (Vs2.map (fun q => q.1))[i]? = some q2.1 := by rw [List.getElem?_map, hq2]; rfl
    rw [h1, ← k1, e2] at e1
    injection e1 with e1
    exact e1.symm
  refine ⟨e, ?_⟩
  have t1 := h2 q (List.mem_of_getElem? hq)
  have t2 := k2 q2 (List.mem_of_getElem? hq2)
  obtain ⟨C', S', c1, s1, _⟩ := t1.o
  have q1 := t1.told c1 s1
  have q3 := Told.ents c1 s1 t2
  rw [← e] at q3
  exact q1.uniq q3
theorem pkF {a b c d : As} {M1 M2 Q B : List As} {w0 W : World} (h : Sep w0 W ((a :: M2) ++ ((b :: M1) ++ (c :: d :: (Q ++ B))))) : Sep w0 W (d :: b :: a :: (Q ++ (M1 ++ (M2 ++ B)))) := by
  have q1 : ((a :: M2) ++ ((b :: M1) ++ (c :: d :: (Q ++ B)))).Perm (c :: ((a :: M2) ++ ((b :: M1) ++ (d :: (Q ++ B))))) := by
    have e : (a :: M2) ++ ((b :: M1) ++ (c :: d :: (Q ++ B))) = ((a :: M2) ++ (b :: M1)) ++ c :: (d :: (Q ++ B)) := by simp
    have e2 : (a :: M2) ++ ((b :: M1) ++ (d :: (Q ++ B))) = ((a :: M2) ++ (b :: M1)) ++ (d :: (Q ++ B)) := by simp
    rw [e, e2]
    exact List.perm_middle
  refine (h.perm q1).tail.perm ?_
  have q2 : ((a :: M2) ++ ((b :: M1) ++ (d :: (Q ++ B)))).Perm (d :: ((a :: M2) ++ ((b :: M1) ++ (Q ++ B)))) := by
    have e : (a :: M2) ++ ((b :: M1) ++ (d :: (Q ++ B))) = ((a :: M2) ++ (b :: M1)) ++ d :: (Q ++ B) := by simp
    have e2 : (a :: M2) ++ ((b :: M1) ++ (Q ++ B)) = ((a :: M2) ++ (b :: M1)) ++ (Q ++ B) := by simp
    rw [e, e2]
    exact List.perm_middle
  have q3 : ((a :: M2) ++ ((b :: M1) ++ (Q ++ B))).Perm (b :: a :: (M2 ++ (M1 ++ (Q ++ B)))) := List.perm_middle (l₁ := a :: M2)
  have q4 : (M2 ++ (M1 ++ (Q ++ B))).Perm (Q ++ (M1 ++ (M2 ++ B))) := by
    have r1 : (M2 ++ (M1 ++ (Q ++ B))).Perm (M2 ++ (Q ++ (M1 ++ B))) := (List.perm_append_comm_assoc M1 Q B).append_left M2
    have r2 : (M2 ++ (Q ++ (M1 ++ B))).Perm (Q ++ (M2 ++ (M1 ++ B))) := List.perm_append_comm_assoc M2 Q (M1 ++ B)
    have r3 : (Q ++ (M2 ++ (M1 ++ B))).Perm (Q ++ (M1 ++ (M2 ++ B))) := (List.perm_append_comm_assoc M2 M1 B).append_left Q
    exact (r1.trans r2).trans r3
  exact q2.trans ((q3.trans ((q4.cons _).cons _)).cons _)
set_option maxRecDepth 100000 in
set_option maxHeartbeats 16000000 in
theorem faces_c (W : World) (tick nx : Int) (vc vs va : Value) (LC : List Cr) (LS : List Sh) (AL : List Ask) (hS : StO W vc vs LC LS) (ha : Ls askv 3 W va AL) (hn : LC.length + LS.length ≤ 1048576) (hna : AL.length ≤ 1048576) :
    Calls Tryz.prog 8 #[.agg #[.int .u64 tick, vc, vs, iv nx], va] W fun e W' => e = .returned (.bool true) ∧ W.grownBy W' none := by
  have HALs := Keep.mk ha
  obtain ⟨aA, cA, rfl, hA⟩ := ha
  obtain ⟨nA, hnA⟩ : ∃ n, AL.length = n := ⟨_, rfl⟩
  rw [hnA] at HALs ⊢
  have HA := Keep.mk hA
  have HNL := Keep.mk hnA
  have HNA := Keep.mk hna
  have HST := Keep.mk hS
  have HNB := Keep.mk hn
  obtain ⟨nc, hnc⟩ : ∃ n, LC.length = n := ⟨_, rfl⟩
  obtain ⟨ns, hns⟩ : ∃ n, LS.length = n := ⟨_, rfl⟩
  have HNN : Keep (LC.length = nc ∧ LS.length = ns ∧ nc + ns ≤ 1048576) := ⟨⟨hnc, hns, by omega⟩⟩
  have S1 := (Sep.nil W).newBox #[.int .u64 tick, vc, vs, iv nx] 37
  obtain ⟨b2, hb2⟩ : ∃ b, W.heap.size = b := ⟨_, rfl⟩
  obtain ⟨W1, hW1⟩ : ∃ w, W.alloc (.cells #[.int .u64 tick, vc, vs, iv nx] 37) = w := ⟨_, rfl⟩
  rw [hW1, hb2] at S1
  have HB : Keep (Sep W W1 (boxA b2 [.int .u64 tick, vc, vs, iv nx] 37 :: [])) := ⟨S1⟩
  obtain ⟨dv, hdv⟩ := under29
  obtain ⟨ds, hds⟩ := under37
  obtain ⟨dl, hdl⟩ := under56
  obtain ⟨da, hda⟩ := under39
  clear S1 hS hn hnc hns hA hnA hna
  go_enter Tryz.func8, Tryz.ntmps8
  go_wp2_with fail
  clear hW1 hb2
  refine (alive_c W1).mono ?_
  rintro e W2 ⟨rfl, g2⟩
  replace HB := Keep.mk (HB.out.grown g2)
  clear g2
  have HR := Keep.mk ((HB.out.boxGet k0m).range)
  go_wp2_with (first
    | (with_reducible show wpList _ _ _ ({ dst := some 20, op := Op.load 37 _, type := _, pos := _, after := _, guard := _ } :: _) _ _
       refine wpList_load_mid rfl 37 _ rfl _ _ rfl ([.int .u64 tick, vc, vs, iv nx]) _ HR.out hds.1 hds.2 info37 ?_))
  clear HR
  refine (lent_c W2 tick nx vc vs LC LS (HST.out.c.kept HB.out.g) (HST.out.s.kept HB.out.g) (by have := HNN.out; omega) (by have := HNN.out; omega)).mono ?_
  rintro e W3 hLt
  obtain ⟨gC, kC, gH, kH, rfl, S3⟩ := hLt.o
  rw [HNN.out.1, HNN.out.2.1] at S3 ⊢
  replace HB := Keep.mk (HB.out.join S3)
  clear S3 hLt
  go_wp2_with (first
    | (with_reducible show wpList _ _ _ ({ dst := _, op := Op.store 56 _ _, type := _, pos := _, after := _, guard := _ } :: _) _ _
       refine store_new W3 [.int .u64 tick, sl gC nc kC, sl gH ns kH, iv nx, sl gC (nc + 1) kC, sl gH (ns + 1) kH] 56 rfl rfl rfl rfl rfl info56 (lnv_one _ _ _ _ _ _ _ _ _ _ _ _ _ _) ?_))
  intro W4 hS4 g4
  obtain ⟨xb, hxb⟩ : ∃ b, W3.heap.size = b := ⟨_, rfl⟩
  have S4 := hS4 _ _ HB.out
  rw [hxb] at S4 ⊢
  have S4 : Sep W W4 (boxA xb [.int .u64 tick, sl gC nc kC, sl gH ns kH, iv nx, sl gC (nc + 1) kC, sl gH (ns + 1) kH] 56 :: rowV 26 14 (sl gC (nc + 1) kC) (nc + 1) (fl crv (LC ++ [rmC])) :: rowV 46 7 (sl gH (ns + 1) kH) (ns + 1) (fl shv (LS ++ [rmS])) :: boxA b2 [.int .u64 tick, vc, vs, iv nx] 37 :: []) := S4
  obtain ⟨B, hB⟩ : ∃ B, boxA xb [.int .u64 tick, sl gC nc kC, sl gH ns kH, iv nx, sl gC (nc + 1) kC, sl gH (ns + 1) kH] 56 :: rowV 26 14 (sl gC (nc + 1) kC) (nc + 1) (fl crv (LC ++ [rmC])) :: rowV 46 7 (sl gH (ns + 1) kH) (ns + 1) (fl shv (LS ++ [rmS])) :: boxA b2 [.int .u64 tick, vc, vs, iv nx] 37 :: [] = B := ⟨_, rfl⟩
  have HBB0 := Keep.mk hB
  have HBM : Keep (boxA xb [.int .u64 tick, sl gC nc kC, sl gH ns kH, iv nx, sl gC (nc + 1) kC, sl gH (ns + 1) kH] 56 ∈ B ∧ rowV 26 14 (sl gC (nc + 1) kC) (nc + 1) (fl crv (LC ++ [rmC])) ∈ B ∧ rowV 46 7 (sl gH (ns + 1) kH) (ns + 1) (fl shv (LS ++ [rmS])) ∈ B ∧ boxA b2 [.int .u64 tick, vc, vs, iv nx] 37 ∈ B) := ⟨by
    rw [← hB]
    exact ⟨k0m, k1m, k2m, k3m⟩⟩
  have HXF : Keep (∀ (w : World) (l : List As), Sep W w l → (∀ b ∈ B, b ∈ l) → w.rangeAt xb 0 [.int .u64 tick, sl gC nc kC, sl gH ns kH, iv nx] ∧ StO w (sl gC nc kC) (sl gH ns kH) LC LS) := ⟨fun w l h hb =>
    ⟨range_pre (ys := [sl gC (nc + 1) kC, sl gH (ns + 1) kH]) (h.boxGet (hb _ HBM.out.1)).range,
      ⟨Ls.pre crv_len HNN.out.1 h (hb _ HBM.out.2.1), Ls.pre shv_len HNN.out.2.1 h (hb _ HBM.out.2.2.1), HST.out.oc, HST.out.os, HST.out.bc, HST.out.bs, HST.out.bb⟩⟩⟩
  rw [hB] at S4
  replace HB : Keep (Sep W W4 (rowV 29 16 (.slice none 0 0) 0 (fl qE []) :: (([] : List Qv).map qA ++ B))) := ⟨S4.nilV 29 16⟩
  clear S4 hS4 g4 hxb hB
  go_wp2_with fail
  go_loopw [6, 7] (fun u6 u7 wr => ∃ (i m : Nat) (aO : Option Addr) (cO : Nat) (Qs : List Qv), i ≤ 8 ∧ u7 = iv i ∧ u6 = .slice aO m cO ∧ Keep ((Qs).length = m ∧ m ≤ i + nc ∧ ∀ q ∈ Qs, (∃ a n c, q.2.2.1 = .slice a n c) ∧ q.2.2.2.length ≤ 32) ∧ Keep (i = 0 → m = 0) ∧ Keep (Sep W wr (rowV 29 16 (.slice aO m cO) m (fl qE (Qs)) :: (Qs.map qA ++ B)))) (fun _ u7 _ => (8 - intOf u7).toNat)
  case atStart => exact ⟨0, 0, none, 0, [], Nat.zero_le _, rfl, rfl, ⟨⟨rfl, Nat.zero_le _, fun q hq => absurd hq List.not_mem_nil⟩⟩, ⟨fun _ => rfl⟩, HB⟩
  case round =>
    clear HB
    obtain ⟨i, m, aO, cO, Qs, hi, rfl, rfl, HQs, HM0, HB⟩ := hrel
    by_cases hlt : i < nA
    · have hlt1 : (i : Int) < (nA : Int) := by omega
      by_cases h8 : i < 8
      · have h81 : (i : Int) < 8 := by omega
        have h82 : decide ((i : Int) < 8) = true := decide_eq_true h81
        have hi0 : (0 : Int) ≤ (i : Int) := by omega
        have hit : ((i : Nat) : Int).toNat = i := by omega
        have hiw : IntKind.i64.wrap ((i : Int) + 1) = ((i + 1 : Nat) : Int) := by rw [IntKind.wrap_i64]; omega
        obtain ⟨a, ha⟩ : ∃ y, AL[i]? = some y := ⟨_, List.getElem?_eq_getElem (by rw [HNL.out]; exact hlt)⟩
        obtain ⟨g1, o1, e1, q1⟩ := HA.out (by rw [HNL.out]; omega)
        subst e1
        have HRA : Keep (wr.rangeAt g1 (o1 + i * 3) (askv a)) := ⟨fun r u hu => HB.out.g.cell (q1 i a ha r u hu) (by simp)⟩
        have HI8 : Keep (i < 8) := ⟨h8⟩
        clear q1 ha hlt h8 hi
        go_wp2_with (first
          | (with_reducible show wpList _ _ _ ({ dst := some 35, op := Op.load 39 _, type := _, pos := _, after := _, guard := _ } :: _) _ _
             refine wpList_load_mid rfl 39 _ rfl _ _ rfl (askv a) _ HRA.out hda.1 hda.2 info39 ?_)
          | (with_reducible show wpList _ _ _ ({ dst := _, op := Op.store 39 _ _, type := _, pos := _, after := _, guard := _ } :: _) _ _
             refine store_new wr (askv a) 39 rfl rfl rfl rfl rfl info39 (askv_one a) ?_))
        intro w2 hS2 g2
        obtain ⟨ab, hab⟩ : ∃ b, wr.heap.size = b := ⟨_, rfl⟩
        have S2 := hS2 _ _ HB.out
        rw [hab] at S2 ⊢
        replace HB : Keep (Sep W w2 (boxA ab (askv a) 39 :: rowV 29 16 (.slice aO m cO) m (fl qE (Qs)) :: (Qs.map qA ++ B))) := ⟨S2⟩
        clear S2 hS2 g2 hab HRA
        have HRX : Keep (w2.rangeAt b2 0 [.int .u64 tick, vc, vs, iv nx]) := ⟨(HB.out.boxGet (List.mem_cons_of_mem _ (List.mem_cons_of_mem _ (List.mem_append_right _ HBM.out.2.2.2)))).range⟩
        have y0 := (HB.out.boxGet k0m).cellv 0 _ rfl
        have y1 := (HB.out.boxGet k0m).cellv 1 _ rfl
        have y2 := (HB.out.boxGet k0m).cellv 2 _ rfl
        go_wp2_with (first
          | (with_reducible show wpList _ _ _ ({ dst := some 37, op := Op.load 37 _, type := _, pos := _, after := _, guard := _ } :: _) _ _
             refine wpList_load_mid rfl 37 _ rfl _ _ rfl ([.int .u64 tick, vc, vs, iv nx]) _ HRX.out hds.1 hds.2 info37 ?_))
        refine (rof_c w2 tick nx a.p a.r a.s vc vs LC LS (HST.out.kept HB.out.g) HNB.out).mono ?_
        rintro e w3 hOf
        obtain ⟨tk1, ow1, a1, n1, c1, T1, cd1, rfl, hT1, hn1, S3, hQ1⟩ := hOf.o
        replace HB := Keep.mk (HB.out.join S3)
        have HT1 : Keep (T1.length = n1 ∧ n1 ≤ 32) := ⟨⟨hT1, hn1⟩⟩
        have HQ1 := Keep.mk hQ1
        have HON := Keep.mk (vwv_one tk1 ow1 (.slice a1 n1 c1) ⟨_, _, _, rfl⟩)
        clear S3 hOf hT1 hn1 hQ1 y0 y1 y2 HRX
        go_wp2_with (first
          | (with_reducible show wpList _ _ _ ({ dst := _, op := Op.store 29 _ _, type := _, pos := _, after := _, guard := _ } :: _) _ _
             refine store_new w3 (vwv tk1 ow1 (.slice a1 n1 c1)) 29 rfl rfl rfl rfl rfl info29 HON.out ?_))
        intro w4 hS4 g4
        obtain ⟨fb, hfb⟩ : ∃ b, w3.heap.size = b := ⟨_, rfl⟩
        have S4 := hS4 _ _ HB.out
        rw [hfb] at S4 ⊢
        replace HB : Keep (Sep W w4 (boxA fb (vwv tk1 ow1 (.slice a1 n1 c1)) 29 :: rowV 33 5 (.slice a1 n1 c1) n1 (fl snv T1) :: boxA ab (askv a) 39 :: rowV 29 16 (.slice aO m cO) m (fl qE (Qs)) :: (Qs.map qA ++ B))) := ⟨S4⟩
        clear S4 hS4 g4 hfb HON
        have HXW := HXF.out w4 _ HB.out (fun b hb => (List.mem_cons_of_mem _ (List.mem_cons_of_mem _ (List.mem_cons_of_mem _ (List.mem_cons_of_mem _ (List.mem_append_right _ hb))))))
        have HRX := Keep.mk HXW.1
        have y0 := (HB.out.boxGet k2m).cellv 0 _ rfl
        have y1 := (HB.out.boxGet k2m).cellv 1 _ rfl
        have y2 := (HB.out.boxGet k2m).cellv 2 _ rfl
        go_wp2_with (first
          | (with_reducible show wpList _ _ _ ({ dst := some 49, op := Op.load 37 _, type := _, pos := _, after := _, guard := _ } :: _) _ _
             refine wpList_load_mid rfl 37 _ rfl _ _ rfl ([.int .u64 tick, sl gC nc kC, sl gH ns kH, iv nx]) _ HRX.out hds.1 hds.2 info37 ?_))
        refine (of_v w4 tick nx a.p a.r a.s (sl gC nc kC) (sl gH ns kH) LC LS HXW.2).mono ?_
        rintro e w5 hOf
        obtain ⟨tk2, ow2, a2, n2, c2, T2, cd2, rfl, hT2, _, S5, hQ2⟩ := hOf.o
        obtain ⟨r1, r2, r3, r4⟩ := hQ2.ofT HQ1.out
        replace r1 := r1.symm
        replace r2 := r2.symm
        replace r3 := r3.symm
        replace r4 := r4.symm
        obtain rfl : n1 = n2 := by rw [← hT2, ← r3, HT1.out.1]
        subst r1 r2 r3 r4
        replace HB := Keep.mk (HB.out.join S5)
        have HON := Keep.mk (vwv_one tk1 ow1 (.slice a2 n1 c2) ⟨_, _, _, rfl⟩)
        clear S5 hOf hQ2 hT2 y0 y1 y2 HRX HXW
        go_wp2_with (first
          | (with_reducible show wpList _ _ _ ({ dst := _, op := Op.store 29 _ _, type := _, pos := _, after := _, guard := _ } :: _) _ _
             refine store_new w5 (vwv tk1 ow1 (.slice a2 n1 c2)) 29 rfl rfl rfl rfl rfl info29 HON.out ?_))
        intro w6 hS6 g6
        obtain ⟨vb, hvb⟩ : ∃ b, w5.heap.size = b := ⟨_, rfl⟩
        have S6 := hS6 _ _ HB.out
        rw [hvb] at S6 ⊢
        replace HB : Keep (Sep W w6 (boxA vb (vwv tk1 ow1 (.slice a2 n1 c2)) 29 :: rowV 33 5 (.slice a2 n1 c2) n1 (fl snv T1) :: boxA fb (vwv tk1 ow1 (.slice a1 n1 c1)) 29 :: rowV 33 5 (.slice a1 n1 c1) n1 (fl snv T1) :: boxA ab (askv a) 39 :: rowV 29 16 (.slice aO m cO) m (fl qE (Qs)) :: (Qs.map qA ++ B))) := ⟨S6⟩
        clear S6 hS6 g6 hvb HON
        have HRN := Keep.mk ((HB.out.boxGet k0m).range)
        have HRF := Keep.mk ((HB.out.boxGet k2m).range)
        go_wp2_with (first
          | (with_reducible show wpList _ _ _ ({ dst := some 63, op := Op.load 29 _, type := _, pos := _, after := _, guard := _ } :: _) _ _
             refine load_g rfl 29 _ rfl _ _ rfl (vwv tk1 ow1 (.slice a2 n1 c2)) _ HRN.out hdv.1 hdv.2 info29 ?_)
          | (with_reducible show wpList _ _ _ ({ dst := some 64, op := Op.load 29 _, type := _, pos := _, after := _, guard := _ } :: _) _ _
             refine load_g rfl 29 _ rfl _ _ rfl (vwv tk1 ow1 (.slice a1 n1 c1)) _ HRF.out hdv.1 hdv.2 info29 ?_))
        refine (req_c w6 tk1 tk1 ow1 ow1 (.slice a2 n1 c2) (.slice a1 n1 c1) T1 T1 (Ls.own (e := 33) snv_len HB.out (by rw [HT1.out.1]; exact k1m)) (Ls.own (e := 33) snv_len HB.out (by rw [HT1.out.1]; exact k3m)) (by have := HT1.out; omega)).mono ?_
        rintro e w7 ⟨rfl, g7⟩
        rw [decide_eq_true (⟨rfl, rfl, rfl⟩ : tk1 = tk1 ∧ ow1 = ow1 ∧ T1 = T1)]
        replace HB := Keep.mk (HB.out.grown g7)
        clear g7 HRN HRF
        have HRN := Keep.mk ((HB.out.boxGet k0m).range)
        obtain ⟨g9, c9, w9, ap, S9⟩ := Sep.appQ ((tk1, ow1, Value.slice a2 n1 c2, T1) : Qv) ⟨_, _, _, rfl⟩ HQs.out.1 (fr1 [_, _, _, _, _] HB.out) (by have := HQs.out.2.1; have := HNN.out; have := HI8.out; omega)
        have AP : Keep ((Builtin.append_ #[52, 52] 52 #[.slice aO m cO, sl w7.heap.size 1 1]).run Tryz.prog (w7.alloc (.cells (vwv tk1 ow1 (.slice a2 n1 c2)).toArray 29)) = .ok (sl g9 (m + 1) c9) w9) := ⟨ap⟩
        have HBS := Keep.mk (bsV tk1 ow1 (.slice a2 n1 c2) ⟨_, _, _, rfl⟩)
        have HQ9 : Keep ((Qs ++ [((tk1, ow1, Value.slice a2 n1 c2, T1) : Qv)]).length = m + 1 ∧ m + 1 ≤ (i + 1) + nc ∧ ∀ q ∈ Qs ++ [((tk1, ow1, Value.slice a2 n1 c2, T1) : Qv)], (∃ a n c, q.2.2.1 = .slice a n c) ∧ q.2.2.2.length ≤ 32) := ⟨by
          obtain ⟨r1, r2, r3⟩ := HQs.out
          refine ⟨by rw [List.length_append, r1]; rfl, by omega, fun q hq => ?_⟩
          rcases List.mem_append.1 hq with hq | hq
          · exact r3 q hq
          · rw [List.mem_singleton.1 hq]
            exact ⟨⟨_, _, _, rfl⟩, by show T1.length ≤ 32; rw [HT1.out.1]; exact HT1.out.2⟩⟩
        have HB9 : Keep (Sep W w9 (boxA ab (askv a) 39 :: rowV 29 16 (.slice (some ⟨g9, 0, none⟩) (m + 1) c9) (m + 1) (fl qE (Qs ++ [((tk1, ow1, Value.slice a2 n1 c2, T1) : Qv)])) :: ((Qs ++ [((tk1, ow1, Value.slice a2 n1 c2, T1) : Qv)]).map qA ++ B))) := ⟨by
          have q : Sep W w9 (rowV 29 16 (.slice (some ⟨g9, 0, none⟩) (m + 1) c9) (m + 1) (fl qE (Qs ++ [((tk1, ow1, Value.slice a2 n1 c2, T1) : Qv)])) :: boxA vb (vwv tk1 ow1 (.slice a2 n1 c2)) 29 :: rowV 33 5 (.slice a2 n1 c2) n1 (fl snv T1) :: boxA fb (vwv tk1 ow1 (.slice a1 n1 c1)) 29 :: rowV 33 5 (.slice a1 n1 c1) n1 (fl snv T1) :: boxA ab (askv a) 39 :: (Qs.map qA ++ B)) := S9
          have q2 := Sep.dropM [_, _] [_, _] (Sep.dropM [_] [_] q)
          rw [List.map_append, List.append_assoc]
          have q3 : Sep W w9 (boxA ab (askv a) 39 :: rowV 29 16 (.slice (some ⟨g9, 0, none⟩) (m + 1) c9) (m + 1) (fl qE (Qs ++ [((tk1, ow1, Value.slice a2 n1 c2, T1) : Qv)])) :: rowV 33 5 (.slice a2 n1 c2) T1.length (fl snv T1) :: (Qs.map qA ++ B)) := by
            rw [HT1.out.1]
            exact fr1 [_, _] q2
          exact q3.perm (((List.perm_middle (l₁ := Qs.map qA) (a := qA ((tk1, ow1, Value.slice a2 n1 c2, T1) : Qv))).symm.cons _).cons _)⟩
        clear ap S9 HB
        by_cases hi00 : i = 0
        · subst hi00
          have z1 : (((0 : Nat) : Int) == 0) = true := rfl
          have z2 : decide (((0 : Nat) : Int) = 0) = true := rfl
          clear HQ9
          have HXW := HXF.out w9 _ HB9.out (fun b hb => (List.mem_cons_of_mem _ (List.mem_cons_of_mem _ (List.mem_append_right _ hb))))
          have HRX := Keep.mk HXW.1
          have HQ0 : Keep ((Qs ++ [((tk1, ow1, Value.slice a2 n1 c2, T1) : Qv)]).length = m + 1 ∧ m + 1 ≤ 1 + 0 ∧ ∀ q ∈ Qs ++ [((tk1, ow1, Value.slice a2 n1 c2, T1) : Qv)], (∃ a n c, q.2.2.1 = .slice a n c) ∧ q.2.2.2.length ≤ 32) := ⟨by
            obtain ⟨r1, r2, r3⟩ := HQs.out
            refine ⟨by rw [List.length_append, r1]; rfl, by have := HM0.out rfl; omega, fun q hq => ?_⟩
            rcases List.mem_append.1 hq with hq | hq
            · exact r3 q hq
            · rw [List.mem_singleton.1 hq]
              exact ⟨⟨_, _, _, rfl⟩, by show T1.length ≤ 32; rw [HT1.out.1]; exact HT1.out.2⟩⟩
          have y1 := (HB9.out.boxGet k0m).cellv 1 _ rfl
          have y2 := (HB9.out.boxGet k0m).cellv 2 _ rfl
          go_wp2_with (first
            | (with_reducible show wpList _ _ _ ({ dst := some 69, op := Op.load 29 _, type := _, pos := _, after := _, guard := _ } :: _) _ _
               refine wpList_load_mid rfl 29 _ rfl _ _ rfl (vwv tk1 ow1 (.slice a2 n1 c2)) _ HRN.out hdv.1 hdv.2 info29 ?_)
            | (with_reducible show wpList _ _ _ ({ dst := some 70, op := Op.buildSlice 52 _ _, type := _, pos := _, after := _, guard := _ } :: _) _ _
               refine wpList_bs_run rfl (.tmp 69) 52 rfl _ rfl (HBS.out _) ?_)
            | (with_reducible show wpList _ _ _ ({ dst := some 71, op := Op.call { callee := Callee.builtin Builtin.append, args := _, argTypes := _ }, type := _, pos := _, after := _, guard := _ } :: _) _ _
               refine wpList_append_run _ rfl (.tmp 68) (.tmp 70) 52 rfl _ _ rfl rfl AP.out ?_)
            | (with_reducible show wpList _ _ _ ({ dst := some 75, op := Op.load 37 _, type := _, pos := _, after := _, guard := _ } :: _) _ _
               refine wpList_load_mid rfl 37 _ rfl _ _ rfl ([.int .u64 tick, sl gC nc kC, sl gH ns kH, iv nx]) _ HRX.out hds.1 hds.2 info37 ?_))
          refine (all_c w9 tick nx a.r a.s (sl gC nc kC) (sl gH ns kH) LC LS HXW.2 (by have := HNN.out; omega)).mono ?_
          rintro e wa ⟨va5, rfl, hAl⟩
          obtain ⟨C, Vs, f1, f2, f3, f4, S5⟩ := hAl.o
          obtain ⟨am, cm, rfl⟩ := own_slice (S5.rowGet k0m)
          have HBa := Keep.mk (HB9.out.join S5)
          clear y1 y2 HRX HXW AP HBS HRN HB9
          have ha0 := (HBa.out.boxGet (List.mem_append_right _ k0m)).cellv 1 _ rfl
          have ha1 := (HBa.out.boxGet (List.mem_append_right _ k0m)).cellv 2 _ rfl
          have HRX := Keep.mk ((HBa.out.boxGet (List.mem_append_right _ (List.mem_cons_of_mem _ (List.mem_cons_of_mem _ (List.mem_append_right _ HBM.out.2.2.2))))).range)
          go_wp2_with (first
            | (with_reducible show wpList _ _ _ ({ dst := some 81, op := Op.load 37 _, type := _, pos := _, after := _, guard := _ } :: _) _ _
               refine wpList_load_mid rfl 37 _ rfl _ _ rfl ([.int .u64 tick, vc, vs, iv nx]) _ HRX.out hds.1 hds.2 info37 ?_))
          refine (rall_c wa tick nx a.r a.s vc vs LC C LS (HST.out.kept HBa.out.g) HNB.out f1).mono ?_
          rintro e wb ⟨vb5, rfl, hAw⟩
          obtain ⟨Vs2, k1, k2, S6⟩ := hAw.o
          obtain ⟨an, cn, rfl⟩ := own_slice (S6.rowGet k0m)
          obtain ⟨mm, hmm⟩ : ∃ n, Vs.length = n := ⟨_, rfl⟩
          have hmm2 : Vs2.length = mm := by rw [← hmm, ← List.length_map (f := fun q : Vt => q.1), k1, ← f3, List.length_map]
          have HMM : Keep (mm ≤ nc) := ⟨by rw [← hmm, ← List.length_map (f := fun q : Vt => q.1), f3, ← HNN.out.1]; exact f2⟩
          have HVs : Keep (Vs.length = mm ∧ ∀ q ∈ Vs, (∃ a n c, q.2.1 = .slice a n c) ∧ q.2.2.length ≤ 32) := ⟨⟨hmm, fun q hq => ⟨(f4 q hq).2, (f4 q hq).1.le⟩⟩⟩
          have HVs2 : Keep (Vs2.length = mm) := ⟨hmm2⟩
          have HALE : Keep (∀ (i : Nat) (q q2 : Vt), Vs[i]? = some q → Vs2[i]? = some q2 → q.1 = q2.1 ∧ q.2.2 = q2.2.2) := ⟨fun i q q2 h1 h2 => al_eq f3 (fun q hq => (f4 q hq).1) k1 (fun q hq => (k2 q hq).2.1) h1 h2⟩
          rw [hmm] at HBa ⊢
          rw [hmm2] at S6 ⊢
          have HB : Keep (Sep W wb (rowV 29 16 (.slice (some ⟨g9, 0, none⟩) (m + 1) c9) (m + 1) (fl qE (Qs ++ [((tk1, ow1, Value.slice a2 n1 c2, T1) : Qv)])) :: rowV 29 16 (.slice am mm cm) mm (fl (vwE tick) Vs) :: rowV 29 16 (.slice an mm cn) mm (fl (vwE tick) Vs2) :: ((Qs ++ [((tk1, ow1, Value.slice a2 n1 c2, T1) : Qv)]).map qA ++ ((Vs.drop 0).map rwE ++ (Vs2.map rwE ++ B))))) := ⟨by
            have q := HBa.out.join S6
            exact pkF q⟩
          clear S6 hAw hAl S5 f1 f2 f3 f4 k1 k2 hmm hmm2 ha0 ha1 HRX HBa
          go_wp2_with fail
          as_aux_lemma =>
            go_loopw [6, 15] (fun u6 u15 wr => ∃ (k mk : Nat) (aO : Option Addr) (cO : Nat) (Qk : List Qv), k ≤ mm ∧ u15 = iv k ∧ u6 = .slice aO mk cO ∧ Keep (Qk.length = mk ∧ mk ≤ 1 + k ∧ ∀ q ∈ Qk, (∃ a n c, q.2.2.1 = .slice a n c) ∧ q.2.2.2.length ≤ 32) ∧ Keep (Sep W wr (rowV 29 16 (.slice aO mk cO) mk (fl qE (Qk)) :: rowV 29 16 (.slice am mm cm) mm (fl (vwE tick) Vs) :: rowV 29 16 (.slice an mm cn) mm (fl (vwE tick) Vs2) :: (Qk.map qA ++ ((Vs.drop k).map rwE ++ (Vs2.map rwE ++ B)))))) (fun _ u15 _ => (mm - intOf u15).toNat)
            case atStart => exact ⟨0, m + 1, some ⟨g9, 0, none⟩, c9, Qs ++ [((tk1, ow1, Value.slice a2 n1 c2, T1) : Qv)], Nat.zero_le _, rfl, rfl, HQ0, HB⟩
            case round =>
              clear HB HQ0
              obtain ⟨k, mk, aO, cO, Qk, hk, rfl, rfl, HQk, HB⟩ := hrel
              by_cases hkt : k < mm
              · have hk1 : (k : Int) < (mm : Int) := by omega
                have hk0 : (0 : Int) ≤ (k : Int) := by omega
                have hkn : ((k : Nat) : Int).toNat = k := by omega
                have hkw : IntKind.i64.wrap ((k : Int) + 1) = ((k + 1 : Nat) : Int) := by rw [IntKind.wrap_i64]; have := HMM.out; have := HNN.out; omega
                have HKN : Keep (k < mm) := ⟨hkt⟩
                obtain ⟨q1, hq1⟩ : ∃ q, Vs[k]? = some q := ⟨_, List.getElem?_eq_getElem (by rw [HVs.out.1]; exact hkt)⟩
                obtain ⟨q2, hq2⟩ : ∃ q, Vs2[k]? = some q := ⟨_, List.getElem?_eq_getElem (by rw [HVs2.out]; exact hkt)⟩
                have HEQ : Keep (q1.1 = q2.1 ∧ q1.2.2 = q2.2.2) := ⟨HALE.out k q1 q2 hq1 hq2⟩
                have HQ1k := Keep.mk hq1
                have HQ2k := Keep.mk hq2
                have HSL := Keep.mk (HVs.out.2 q1 (List.mem_of_getElem? hq1))
                have HCL : Keep (q1.2.2.length ≤ 281474976710656) := ⟨by have := HSL.out.2; omega⟩
                have HDR : Keep (Vs.drop k = q1 :: Vs.drop (k + 1)) := ⟨by
                  have hil := (List.getElem?_eq_some_iff.1 hq1).1
                  rw [List.drop_eq_getElem_cons hil, (List.getElem?_eq_some_iff.1 hq1).2]⟩
                obtain ⟨gm, hgm⟩ := row_blk HB.out k1m (by omega)
                subst hgm
                obtain ⟨gn, hgn⟩ := row_blk HB.out k2m (by omega)
                subst hgn
                have HLQ1 : Keep (∀ w, Sep W w (rowV 29 16 (.slice aO mk cO) mk (fl qE (Qk)) :: rowV 29 16 (.slice (some ⟨gm, 0, none⟩) mm cm) mm (fl (vwE tick) Vs) :: rowV 29 16 (.slice (some ⟨gn, 0, none⟩) mm cn) mm (fl (vwE tick) Vs2) :: (Qk.map qA ++ ((Vs.drop k).map rwE ++ (Vs2.map rwE ++ B)))) → Ls snv 5 w q1.2.1 q1.2.2) := ⟨fun w hw => Ls.own (e := 33) snv_len hw (List.mem_cons_of_mem _ (List.mem_cons_of_mem _ (List.mem_cons_of_mem _ (List.mem_append_right _ (List.mem_append_left _ (by rw [HDR.out]; exact List.mem_cons_self ..))))))⟩
                have HLQ2 : Keep (∀ w, Sep W w (rowV 29 16 (.slice aO mk cO) mk (fl qE (Qk)) :: rowV 29 16 (.slice (some ⟨gm, 0, none⟩) mm cm) mm (fl (vwE tick) Vs) :: rowV 29 16 (.slice (some ⟨gn, 0, none⟩) mm cn) mm (fl (vwE tick) Vs2) :: (Qk.map qA ++ ((Vs.drop k).map rwE ++ (Vs2.map rwE ++ B)))) → Ls snv 5 w q2.2.1 q2.2.2) := ⟨fun w hw => Ls.own (e := 33) snv_len hw (List.mem_cons_of_mem _ (List.mem_cons_of_mem _ (List.mem_cons_of_mem _ (List.mem_append_right _ (List.mem_append_right _ (List.mem_append_left _ (List.mem_map.2 ⟨q2, List.mem_of_getElem? HQ2k.out, rfl⟩)))))))⟩
                clear hkt hk hq1 hq2
                go_wp2_with fail
                refine region_Y (S := fun w' => Sep W w' (rowV 29 16 (.slice aO mk cO) mk (fl qE (Qk)) :: rowV 29 16 (.slice (some ⟨gm, 0, none⟩) mm cm) mm (fl (vwE tick) Vs) :: rowV 29 16 (.slice (some ⟨gn, 0, none⟩) mm cn) mm (fl (vwE tick) Vs2) :: (Qk.map qA ++ ((Vs.drop k).map rwE ++ (Vs2.map rwE ++ B))))) [] (by kernel_rfl) ?_
                obtain ⟨W0, hW0⟩ : ∃ W_, wr.drew = W_ := ⟨_, rfl⟩
                replace HB := Keep.mk (HB.out.grown (gr_drew _ none))
                rw [hW0] at HB ⊢
                clear hW0
                have hHeld : (fun w' => Sep W w' (rowV 29 16 (.slice aO mk cO) mk (fl qE (Qk)) :: rowV 29 16 (.slice (some ⟨gm, 0, none⟩) mm cm) mm (fl (vwE tick) Vs) :: rowV 29 16 (.slice (some ⟨gn, 0, none⟩) mm cn) mm (fl (vwE tick) Vs2) :: (Qk.map qA ++ ((Vs.drop k).map rwE ++ (Vs2.map rwE ++ B))))) W0 := HB.out
                refine yp (i := 0) (v := ?_) rfl (Or.inl ⟨by rfl, ?_⟩) ?_
                rotate_left
                · (intro w hSw; go_simp; first | done | (with_reducible rfl))
                simp only [Act.put, A1, A3, A4, A5, A6]
                refine yp (i := 1) (v := ?_) rfl (Or.inl ⟨by rfl, ?_⟩) ?_
                rotate_left
                · (intro w hSw; go_simp; first | done | (with_reducible rfl))
                simp only [Act.put, A1, A2, A3, A4, A5, A6]
                refine yp (i := 2) (v := ?_) rfl (Or.inl ⟨by rfl, ?_⟩) ?_
                rotate_left
                · (intro w hSw; go_simp; first | done | (with_reducible rfl))
                simp only [Act.put, A1, A2, A3, A4, A5, A6]
                refine yt (i := 3) (v := .agg (vwE tick q1).toArray) rfl (yieldsIf_load_mid (by rfl) 29 _ rfl _ _ rfl _ _ (fun w hSw => fl_range (vwE_len tick) (hSw.rowGet k1m) (by omega) k q1 HQ1k.out) hdv.1 hdv.2 info29) (by assumption) ?_
                simp only [Act.put, A1, A2, A3, A4, A5, A6]
                refine yp (i := 4) (v := ?_) rfl (Or.inl ⟨by rfl, ?_⟩) ?_
                rotate_left
                · (intro w hSw; go_simp; first | done | (with_reducible rfl))
                simp only [Act.put, A1, A2, A3, A4, A5, A6]
                refine yp (i := 5) (v := ?_) rfl (Or.inl ⟨by rfl, ?_⟩) ?_
                rotate_left
                · (intro w hSw; go_simp; first | done | (with_reducible rfl))
                simp only [Act.put, A1, A2, A3, A4, A5, A6]
                refine yp (i := 6) (v := ?_) rfl (Or.inl ⟨by rfl, ?_⟩) ?_
                rotate_left
                · (intro w hSw; go_simp; first | done | (with_reducible rfl))
                simp only [Act.put, A1, A2, A3, A4, A5, A6]
                refine yt (i := 7) (v := .agg (vwE tick q2).toArray) rfl (yieldsIf_load_mid (by rfl) 29 _ rfl _ _ rfl _ _ (fun w hSw => fl_range (vwE_len tick) (hSw.rowGet k2m) (by omega) k q2 HQ2k.out) hdv.1 hdv.2 info29) (by assumption) ?_
                simp only [Act.put, A1, A2, A3, A4, A5, A6]
                refine wpAnyY_one (i := 8) (by kernel_rfl) rfl (fun K hK => ?_)
                go_simp
                refine (req_c _ tick tick q1.1 q2.1 q1.2.1 q2.2.1 q1.2.2 q2.2.2 (HLQ1.out _ HB.out) (HLQ2.out _ HB.out) HCL.out).mono ?_
                rintro e wq ⟨rfl, gq⟩
                rw [decide_eq_true (⟨rfl, HEQ.out.1, HEQ.out.2⟩ : tick = tick ∧ q1.1 = q2.1 ∧ q1.2.2 = q2.2.2)]
                replace HB := Keep.mk (HB.out.grown gq)
                refine hK.out _ _ (fun h => h.grown gq) ?_
                clear hK K gq hHeld
                refine yp (i := 9) (v := .bool false) rfl (Or.inl ⟨by rfl, ?_⟩) ?_
                · (intro w hSw; go_simp; first | done | rfl | (simp; done) | trace_state)
                simp only [Act.put, A1, A2, A3, A4, A5, A6]
                refine wpAnyY_done (by kernel_rfl) ?_ _
                have HX : Keep (wq.rangeAt gm (k * 16) (vwE tick q1)) := ⟨fl_range (vwE_len tick) (HB.out.rowGet k1m) (by have := HKN.out; omega) k q1 HQ1k.out⟩
                obtain ⟨g8, c8, w8, ap, S8⟩ := Sep.appQ (toQ tick q1) HSL.out.1 HQk.out.1 HB.out (by have := HQk.out.2.1; have := HMM.out; have := HNN.out; have := HKN.out; omega)
                have AP : Keep ((Builtin.append_ #[52, 52] 52 #[.slice aO mk cO, sl wq.heap.size 1 1]).run Tryz.prog (wq.alloc (.cells (vwE tick q1).toArray 29)) = .ok (sl g8 (mk + 1) c8) w8) := ⟨ap⟩
                have HBS : Keep (∀ W, (Instr.buildSlice 52 1 #[(0, .agg (vwE tick q1).toArray)]).run Tryz.prog W = .ok (sl W.heap.size 1 1) (W.alloc (.cells (vwE tick q1).toArray 29))) := ⟨bsV tick q1.1 q1.2.1 HSL.out.1⟩
                have HQ8 : Keep ((Qk ++ [toQ tick q1]).length = mk + 1 ∧ mk + 1 ≤ 1 + (k + 1) ∧ ∀ q ∈ Qk ++ [toQ tick q1], (∃ a n c, q.2.2.1 = .slice a n c) ∧ q.2.2.2.length ≤ 32) := ⟨by
                  obtain ⟨r1, r2, r3⟩ := HQk.out
                  refine ⟨by rw [List.length_append, r1]; rfl, by omega, fun q hq => ?_⟩
                  rcases List.mem_append.1 hq with hq | hq
                  · exact r3 q hq
                  · rw [List.mem_singleton.1 hq]; exact HSL.out⟩
                have HS8 : Keep (Sep W w8 (rowV 29 16 (.slice (some ⟨g8, 0, none⟩) (mk + 1) c8) (mk + 1) (fl qE (Qk ++ [toQ tick q1])) :: rowV 29 16 (.slice (some ⟨gm, 0, none⟩) mm cm) mm (fl (vwE tick) Vs) :: rowV 29 16 (.slice (some ⟨gn, 0, none⟩) mm cn) mm (fl (vwE tick) Vs2) :: ((Qk ++ [toQ tick q1]).map qA ++ ((Vs.drop (k + 1)).map rwE ++ (Vs2.map rwE ++ B))))) := ⟨by
                  have q := S8
                  rw [HDR.out, List.map_cons, List.cons_append] at q
                  rw [List.map_append, List.append_assoc]
                  exact q⟩
                clear ap S8 HB
                go_wp2_with (first
                  | (with_reducible show wpList _ _ _ ({ dst := some 112, op := Op.load 29 _, type := _, pos := _, after := _, guard := _ } :: _) _ _
                     refine wpList_load_mid rfl 29 _ rfl _ _ rfl (vwE tick q1) _ HX.out hdv.1 hdv.2 info29 ?_)
                  | (with_reducible show wpList _ _ _ ({ dst := some 113, op := Op.buildSlice 52 _ _, type := _, pos := _, after := _, guard := _ } :: _) _ _
                     refine wpList_bs_run rfl (.tmp 112) 52 rfl _ rfl (HBS.out _) ?_)
                  | (with_reducible show wpList _ _ _ ({ dst := some 114, op := Op.call { callee := Callee.builtin Builtin.append, args := _, argTypes := _ }, type := _, pos := _, after := _, guard := _ } :: _) _ _
                     refine wpList_append_run _ rfl (.tmp 108) (.tmp 113) 52 rfl _ _ rfl rfl AP.out ?_))
                go_roundw
                case rel => exact ⟨k + 1, mk + 1, some ⟨g8, 0, none⟩, c8, Qk ++ [toQ tick q1], HKN.out, rfl, rfl, HQ8, HS8⟩
                case measure => simp [intOf]; have := HKN.out; omega
              · have hk1 : ¬ (k : Int) < (mm : Int) := by omega
                obtain rfl : k = mm := by omega
                have HBn : Keep (Sep W wr (rowV 29 16 (.slice aO mk cO) mk (fl qE (Qk)) :: (Qk.map qA ++ B))) := ⟨by
                  have q := HB.out
                  rw [List.drop_of_length_le (by rw [HVs.out.1]; exact Nat.le_refl _), List.map_nil, List.nil_append] at q
                  have q2 := Sep.dropM [_] [_, _] q
                  exact Sep.dropM (_ :: Qk.map qA) (Vs2.map rwE) q2⟩
                have HQn : Keep ((Qk).length = mk ∧ mk ≤ (0 + 1) + nc ∧ ∀ q ∈ Qk, (∃ a n c, q.2.2.1 = .slice a n c) ∧ q.2.2.2.length ≤ 32) := ⟨by obtain ⟨r1, r2, r3⟩ := HQk.out; exact ⟨r1, by have := HMM.out; omega, r3⟩⟩
                clear hkt hk HB HQk
                go_wp2_with fail
                go_roundw
                case rel => exact ⟨0 + 1, mk, aO, cO, Qk, by omega, rfl, rfl, HQn, ⟨fun h => by omega⟩, HBn⟩
                case measure => simp [intOf]
        · have z1 : ((i : Int) == 0) = false := beq_eq_false_iff_ne.2 (by omega)
          have z2 : decide ((i : Int) = 0) = false := decide_eq_false (by omega)
          have z3 : (i == 0) = false := beq_eq_false_iff_ne.2 hi00
          have HBn := Keep.mk HB9.out.tail
          clear HB9 hi00
          go_wp2_with (first
            | (with_reducible show wpList _ _ _ ({ dst := some 69, op := Op.load 29 _, type := _, pos := _, after := _, guard := _ } :: _) _ _
               refine wpList_load_mid rfl 29 _ rfl _ _ rfl (vwv tk1 ow1 (.slice a2 n1 c2)) _ HRN.out hdv.1 hdv.2 info29 ?_)
            | (with_reducible show wpList _ _ _ ({ dst := some 70, op := Op.buildSlice 52 _ _, type := _, pos := _, after := _, guard := _ } :: _) _ _
               refine wpList_bs_run rfl (.tmp 69) 52 rfl _ rfl (HBS.out _) ?_)
            | (with_reducible show wpList _ _ _ ({ dst := some 71, op := Op.call { callee := Callee.builtin Builtin.append, args := _, argTypes := _ }, type := _, pos := _, after := _, guard := _ } :: _) _ _
               refine wpList_append_run _ rfl (.tmp 68) (.tmp 70) 52 rfl _ _ rfl rfl AP.out ?_))
          go_roundw
          case rel => exact ⟨i + 1, m + 1, some ⟨g9, 0, none⟩, c9, Qs ++ [((tk1, ow1, Value.slice a2 n1 c2, T1) : Qv)], HI8.out, rfl, rfl, HQ9, ⟨fun h => by omega⟩, HBn⟩
          case measure => simp [intOf]; have := HI8.out; omega

      · have h81 : ¬ (i : Int) < 8 := by omega
        have h82 : decide ((i : Int) < 8) = false := decide_eq_false h81
        replace HQs : Keep ((Qs).length = m ∧ m ≤ 8 + nc ∧ ∀ q ∈ Qs, (∃ a n c, q.2.2.1 = .slice a n c) ∧ q.2.2.2.length ≤ 32) := ⟨by obtain ⟨r1, r2, r3⟩ := HQs.out; exact ⟨r1, by omega, r3⟩⟩
        go_wp2_with fail
        as_aux_lemma =>
          go_loopw [16] (fun u16 wr => ∃ i : Nat, i ≤ m ∧ u16 = iv i ∧ Keep (Sep W wr (rowV 29 16 (.slice aO m cO) m (fl qE (Qs)) :: (Qs.map qA ++ B)))) (fun u16 _ => (m - intOf u16).toNat)
          case atStart => exact ⟨0, Nat.zero_le _, rfl, HB⟩
          case round =>
            clear HB
            obtain ⟨i, hi, rfl, HB⟩ := hrel
            by_cases hlt : i < m
            · have hlt1 : (i : Int) < (m : Int) := by omega
              have hi0 : (0 : Int) ≤ (i : Int) := by omega
              have hit : ((i : Nat) : Int).toNat = i := by omega
              have hiw : IntKind.i64.wrap ((i : Int) + 1) = ((i + 1 : Nat) : Int) := by rw [IntKind.wrap_i64]; have := HQs.out.2.1; have := HNN.out; omega
              have HIN : Keep (i < m) := ⟨hlt⟩
              obtain ⟨q1, hq1⟩ : ∃ q, Qs[i]? = some q := ⟨_, List.getElem?_eq_getElem (by rw [HQs.out.1]; exact hlt)⟩
              have Hq1 := Keep.mk hq1
              clear hlt hi hq1
              go_wp2_with fail
              as_aux_lemma =>
                go_loopw [17] (fun u17 wr => ∃ k : Nat, k ≤ m ∧ u17 = iv k ∧ Keep (Sep W wr (rowV 29 16 (.slice aO m cO) m (fl qE (Qs)) :: (Qs.map qA ++ B)))) (fun u17 _ => (m - intOf u17).toNat)
                case atStart => exact ⟨0, Nat.zero_le _, rfl, HB⟩
                case round =>
                  clear HB
                  obtain ⟨k, hk, rfl, HB⟩ := hrel
                  by_cases hkt : k < m
                  · have hk1 : (k : Int) < (m : Int) := by omega
                    have hk0 : (0 : Int) ≤ (k : Int) := by omega
                    have hkn : ((k : Nat) : Int).toNat = k := by omega
                    have hkw : IntKind.i64.wrap ((k : Int) + 1) = ((k + 1 : Nat) : Int) := by rw [IntKind.wrap_i64]; have := HQs.out.2.1; have := HNN.out; omega
                    have HKN : Keep (k < m) := ⟨hkt⟩
                    obtain ⟨q2, hq2⟩ : ∃ q, Qs[k]? = some q := ⟨_, List.getElem?_eq_getElem (by rw [HQs.out.1]; exact hkt)⟩
                    have Hq2 := Keep.mk hq2
                    obtain ⟨gO, hgO⟩ := row_blk HB.out k0m (by omega)
                    subst hgO
                    have HLq1 : Keep (∀ w, Sep W w (rowV 29 16 (.slice (some ⟨gO, 0, none⟩) m cO) m (fl qE (Qs)) :: (Qs.map qA ++ B)) → Ls snv 5 w q1.2.2.1 q1.2.2.2) := ⟨fun w hw => Ls.own (e := 33) snv_len hw (List.mem_cons_of_mem _ (List.mem_append_left _ (List.mem_map.2 ⟨q1, List.mem_of_getElem? Hq1.out, rfl⟩)))⟩
                    have HLq2 : Keep (∀ w, Sep W w (rowV 29 16 (.slice (some ⟨gO, 0, none⟩) m cO) m (fl qE (Qs)) :: (Qs.map qA ++ B)) → Ls snv 5 w q2.2.2.1 q2.2.2.2) := ⟨fun w hw => Ls.own (e := 33) snv_len hw (List.mem_cons_of_mem _ (List.mem_append_left _ (List.mem_map.2 ⟨q2, List.mem_of_getElem? Hq2.out, rfl⟩)))⟩
                    have HCL : Keep (q1.2.2.2.length ≤ 281474976710656) := ⟨by have := (HQs.out.2.2 q1 (List.mem_of_getElem? Hq1.out)).2; omega⟩
                    obtain ⟨bb, hbb⟩ : ∃ bb, decide (q1.1 = q2.1 ∧ q1.2.1 = q2.2.1 ∧ q1.2.2.2 = q2.2.2.2) = bb := ⟨_, rfl⟩
                    have HBB := Keep.mk hbb
                    clear hkt hk hq2 hbb
                    go_wp2_with fail
                    refine region_Y (S := fun w' => Sep W w' (rowV 29 16 (.slice (some ⟨gO, 0, none⟩) m cO) m (fl qE (Qs)) :: (Qs.map qA ++ B))) [] (by kernel_rfl) ?_
                    obtain ⟨W0, hW0⟩ : ∃ W_, wr.drew = W_ := ⟨_, rfl⟩
                    replace HB := Keep.mk (HB.out.grown (gr_drew _ none))
                    rw [hW0] at HB ⊢
                    clear hW0
                    have hHeld : (fun w' => Sep W w' (rowV 29 16 (.slice (some ⟨gO, 0, none⟩) m cO) m (fl qE (Qs)) :: (Qs.map qA ++ B))) W0 := HB.out
                    refine yp (i := 0) (v := ?_) rfl (Or.inl ⟨by rfl, ?_⟩) ?_
                    rotate_left
                    · (intro w hSw; go_simp; first | done | (with_reducible rfl))
                    simp only [Act.put, A1, A3, A4, A5, A6]
                    refine yp (i := 1) (v := ?_) rfl (Or.inl ⟨by rfl, ?_⟩) ?_
                    rotate_left
                    · (intro w hSw; go_simp; first | done | (with_reducible rfl))
                    simp only [Act.put, A1, A2, A3, A4, A5, A6]
                    refine yp (i := 2) (v := ?_) rfl (Or.inl ⟨by rfl, ?_⟩) ?_
                    rotate_left
                    · (intro w hSw; go_simp; first | done | (with_reducible rfl))
                    simp only [Act.put, A1, A2, A3, A4, A5, A6]
                    refine yt (i := 3) (v := .agg (qE q1).toArray) rfl (yieldsIf_load_mid (by rfl) 29 _ rfl _ _ rfl _ _ (fun w hSw => fl_range qE_len (hSw.rowGet k0m) (by omega) i q1 Hq1.out) hdv.1 hdv.2 info29) (by assumption) ?_
                    simp only [Act.put, A1, A2, A3, A4, A5, A6]
                    refine yp (i := 4) (v := ?_) rfl (Or.inl ⟨by rfl, ?_⟩) ?_
                    rotate_left
                    · (intro w hSw; go_simp; first | done | (with_reducible rfl))
                    simp only [Act.put, A1, A2, A3, A4, A5, A6]
                    refine yp (i := 5) (v := ?_) rfl (Or.inl ⟨by rfl, ?_⟩) ?_
                    rotate_left
                    · (intro w hSw; go_simp; first | done | (with_reducible rfl))
                    simp only [Act.put, A1, A2, A3, A4, A5, A6]
                    refine yp (i := 6) (v := ?_) rfl (Or.inl ⟨by rfl, ?_⟩) ?_
                    rotate_left
                    · (intro w hSw; go_simp; first | done | (with_reducible rfl))
                    simp only [Act.put, A1, A2, A3, A4, A5, A6]
                    refine yt (i := 7) (v := .agg (qE q2).toArray) rfl (yieldsIf_load_mid (by rfl) 29 _ rfl _ _ rfl _ _ (fun w hSw => fl_range qE_len (hSw.rowGet k0m) (by omega) k q2 Hq2.out) hdv.1 hdv.2 info29) (by assumption) ?_
                    simp only [Act.put, A1, A2, A3, A4, A5, A6]
                    refine yp (i := 9) (v := ?_) rfl (Or.inl ⟨by rfl, ?_⟩) ?_
                    rotate_left
                    · (intro w hSw; go_simp; first | done | (with_reducible rfl))
                    simp only [Act.put, A1, A2, A3, A4, A5, A6]
                    refine yp (i := 10) (v := ?_) rfl (Or.inl ⟨by rfl, ?_⟩) ?_
                    rotate_left
                    · (intro w hSw; go_simp; first | done | (with_reducible rfl))
                    simp only [Act.put, A1, A2, A3, A4, A5, A6]
                    refine yp (i := 11) (v := ?_) rfl (Or.inl ⟨by rfl, ?_⟩) ?_
                    rotate_left
                    · (intro w hSw; go_simp; first | done | (with_reducible rfl))
                    simp only [Act.put, A1, A2, A3, A4, A5, A6]
                    refine yt (i := 12) (v := .agg (qE q1).toArray) rfl (yieldsIf_load_mid (by rfl) 29 _ rfl _ _ rfl _ _ (fun w hSw => fl_range qE_len (hSw.rowGet k0m) (by omega) i q1 Hq1.out) hdv.1 hdv.2 info29) (by assumption) ?_
                    simp only [Act.put, A1, A2, A3, A4, A5, A6]
                    refine yp (i := 13) (v := ?_) rfl (Or.inl ⟨by rfl, ?_⟩) ?_
                    rotate_left
                    · (intro w hSw; go_simp; first | done | (with_reducible rfl))
                    simp only [Act.put, A1, A2, A3, A4, A5, A6]
                    refine yp (i := 14) (v := ?_) rfl (Or.inl ⟨by rfl, ?_⟩) ?_
                    rotate_left
                    · (intro w hSw; go_simp; first | done | (with_reducible rfl))
                    simp only [Act.put, A1, A2, A3, A4, A5, A6]
                    refine yp (i := 15) (v := ?_) rfl (Or.inl ⟨by rfl, ?_⟩) ?_
                    rotate_left
                    · (intro w hSw; go_simp; first | done | (with_reducible rfl))
                    simp only [Act.put, A1, A2, A3, A4, A5, A6]
                    refine yt (i := 16) (v := .agg (qE q2).toArray) rfl (yieldsIf_load_mid (by rfl) 29 _ rfl _ _ rfl _ _ (fun w hSw => fl_range qE_len (hSw.rowGet k0m) (by omega) k q2 Hq2.out) hdv.1 hdv.2 info29) (by assumption) ?_
                    simp only [Act.put, A1, A2, A3, A4, A5, A6]
                    refine wpAnyY_one (i := 8) (by kernel_rfl) rfl (fun K hK => ?_)
                    go_simp
                    refine (eq_c _ q1.1 q2.1 q1.2.1 q2.2.1 q1.2.2.1 q2.2.2.1 q1.2.2.2 q2.2.2.2 (HLq1.out _ HB.out) (HLq2.out _ HB.out) HCL.out).mono ?_
                    rintro e wqe ⟨rfl, gq⟩
                    rw [HBB.out]
                    replace HB := Keep.mk (HB.out.grown gq)
                    refine hK.out _ _ (fun h => h.grown gq) ?_
                    clear hK K gq hHeld
                    have hHeld : (fun w' => Sep W w' (rowV 29 16 (.slice (some ⟨gO, 0, none⟩) m cO) m (fl qE (Qs)) :: (Qs.map qA ++ B))) wqe := HB.out
                    refine wpAnyY_one (i := 17) (by kernel_rfl) rfl (fun K hK => ?_)
                    go_simp
                    refine (req_c _ q1.1 q2.1 q1.2.1 q2.2.1 q1.2.2.1 q2.2.2.1 q1.2.2.2 q2.2.2.2 (HLq1.out _ HB.out) (HLq2.out _ HB.out) HCL.out).mono ?_
                    rintro e wqr ⟨rfl, gq⟩
                    rw [HBB.out]
                    replace HB := Keep.mk (HB.out.grown gq)
                    refine hK.out _ _ (fun h => h.grown gq) ?_
                    clear hK K gq hHeld
                    have hHeld : (fun w' => Sep W w' (rowV 29 16 (.slice (some ⟨gO, 0, none⟩) m cO) m (fl qE (Qs)) :: (Qs.map qA ++ B))) wqr := HB.out
                    refine yp (i := 18) (v := .bool false) rfl (Or.inl ⟨by rfl, ?_⟩) ?_
                    · (intro w hSw; go_simp; first | done | rfl | (simp; done) | trace_state)
                    simp only [Act.put, A1, A2, A3, A4, A5, A6]
                    refine wpAnyY_done (by kernel_rfl) ?_ _
                    clear hHeld
                    go_wp2_with fail
                    go_roundw
                    case rel => exact ⟨k + 1, HKN.out, rfl, HB⟩
                    case measure => simp [intOf]; have := HKN.out; omega
                  · have hk1 : ¬ (k : Int) < (m : Int) := by omega
                    clear hkt hk
                    go_wp2_with fail
                    go_roundw
                    case rel => exact ⟨i + 1, HIN.out, rfl, HB⟩
                    case measure => simp [intOf]; have := HIN.out; omega
            · have hlt1 : ¬ (i : Int) < (m : Int) := by omega
              clear hlt hi
              have HR5 := Keep.mk ((HB.out.boxGet (List.mem_cons_of_mem _ (List.mem_append_right _ HBM.out.1))).range)
              have HR2 := Keep.mk ((HB.out.boxGet (List.mem_cons_of_mem _ (List.mem_append_right _ HBM.out.2.2.2))).range)
              go_wp2_with (first
                | (with_reducible show wpList _ _ _ ({ dst := some 146, op := Op.load 56 _, type := _, pos := _, after := _, guard := _ } :: _) _ _
                   refine wpList_load_mid rfl 56 _ rfl _ _ rfl [.int .u64 tick, sl gC nc kC, sl gH ns kH, iv nx, sl gC (nc + 1) kC, sl gH (ns + 1) kH] _ HR5.out hdl.1 hdl.2 info56 ?_)
                | (with_reducible show wpList _ _ _ ({ dst := some 147, op := Op.load 37 _, type := _, pos := _, after := _, guard := _ } :: _) _ _
                   refine wpList_load_mid rfl 37 _ rfl _ _ rfl ([.int .u64 tick, vc, vs, iv nx]) _ HR2.out hds.1 hds.2 info37 ?_))
              refine (still_c wr tick nx tick nx (sl gC nc kC) (sl gH ns kH) (sl gC (nc + 1) kC) (sl gH (ns + 1) kH) vc vs LC LS (Ls.own (e := 26) crv_len HB.out (by rw [List.length_append, HNN.out.1]; exact (List.mem_cons_of_mem _ (List.mem_append_right _ HBM.out.2.1)))) (Ls.own (e := 46) shv_len HB.out (by rw [List.length_append, HNN.out.2.1]; exact (List.mem_cons_of_mem _ (List.mem_append_right _ HBM.out.2.2.1)))) (HST.out.c.kept HB.out.g) (HST.out.s.kept HB.out.g) (by have := HNN.out; omega) (by have := HNN.out; omega)).mono ?_
              rintro e w8 ⟨rfl, g8⟩
              replace HB := Keep.mk (HB.out.grown g8)
              clear g8 HR5 HR2
              have HR5 := Keep.mk ((HB.out.boxGet (List.mem_cons_of_mem _ (List.mem_append_right _ HBM.out.1))).range)
              have HR2 := Keep.mk ((HB.out.boxGet (List.mem_cons_of_mem _ (List.mem_append_right _ HBM.out.2.2.2))).range)
              go_wp2_with (first
                | (with_reducible show wpList _ _ _ ({ dst := some 150, op := Op.load 56 _, type := _, pos := _, after := _, guard := _ } :: _) _ _
                   refine load_g rfl 56 _ rfl _ _ rfl [.int .u64 tick, sl gC nc kC, sl gH ns kH, iv nx, sl gC (nc + 1) kC, sl gH (ns + 1) kH] _ HR5.out hdl.1 hdl.2 info56 ?_)
                | (with_reducible show wpList _ _ _ ({ dst := some 151, op := Op.load 37 _, type := _, pos := _, after := _, guard := _ } :: _) _ _
                   refine load_g rfl 37 _ rfl _ _ rfl ([.int .u64 tick, vc, vs, iv nx]) _ HR2.out hds.1 hds.2 info37 ?_))
              refine (moved_c W w8 (boxA b2 [.int .u64 tick, vc, vs, iv nx] 37 :: []) tick nx tick nx gC kC gH kH nc ns vc vs (.slice aA nA cA) LC LS AL HST.out.c HST.out.s HALs.out HST.out.oc HST.out.os HNN.out.1 HNN.out.2.1 HNN.out.2.2 HNA.out (by
                have q := Sep.dropM (l := B) [] (_ :: Qs.map qA) HB.out
                rw [← HBB0.out] at q
                exact q.tail)).mono ?_
              rintro e w9 ⟨rfl, g9⟩
              have HG := Keep.mk g9
              clear g9 HB
              go_wp2_with fail
              go_ret
              exact ⟨rfl, HG.out⟩
    · have hlt1 : ¬ (i : Int) < (nA : Int) := by omega
      replace HQs : Keep ((Qs).length = m ∧ m ≤ 8 + nc ∧ ∀ q ∈ Qs, (∃ a n c, q.2.2.1 = .slice a n c) ∧ q.2.2.2.length ≤ 32) := ⟨by obtain ⟨r1, r2, r3⟩ := HQs.out; exact ⟨r1, by omega, r3⟩⟩
      go_wp2_with fail
      as_aux_lemma =>
        go_loopw [16] (fun u16 wr => ∃ i : Nat, i ≤ m ∧ u16 = iv i ∧ Keep (Sep W wr (rowV 29 16 (.slice aO m cO) m (fl qE (Qs)) :: (Qs.map qA ++ B)))) (fun u16 _ => (m - intOf u16).toNat)
        case atStart => exact ⟨0, Nat.zero_le _, rfl, HB⟩
        case round =>
          clear HB
          obtain ⟨i, hi, rfl, HB⟩ := hrel
          by_cases hlt : i < m
          · have hlt1 : (i : Int) < (m : Int) := by omega
            have hi0 : (0 : Int) ≤ (i : Int) := by omega
            have hit : ((i : Nat) : Int).toNat = i := by omega
            have hiw : IntKind.i64.wrap ((i : Int) + 1) = ((i + 1 : Nat) : Int) := by rw [IntKind.wrap_i64]; have := HQs.out.2.1; have := HNN.out; omega
            have HIN : Keep (i < m) := ⟨hlt⟩
            obtain ⟨q1, hq1⟩ : ∃ q, Qs[i]? = some q := ⟨_, List.getElem?_eq_getElem (by rw [HQs.out.1]; exact hlt)⟩
            have Hq1 := Keep.mk hq1
            clear hlt hi hq1
            go_wp2_with fail
            as_aux_lemma =>
              go_loopw [17] (fun u17 wr => ∃ k : Nat, k ≤ m ∧ u17 = iv k ∧ Keep (Sep W wr (rowV 29 16 (.slice aO m cO) m (fl qE (Qs)) :: (Qs.map qA ++ B)))) (fun u17 _ => (m - intOf u17).toNat)
              case atStart => exact ⟨0, Nat.zero_le _, rfl, HB⟩
              case round =>
                clear HB
                obtain ⟨k, hk, rfl, HB⟩ := hrel
                by_cases hkt : k < m
                · have hk1 : (k : Int) < (m : Int) := by omega
                  have hk0 : (0 : Int) ≤ (k : Int) := by omega
                  have hkn : ((k : Nat) : Int).toNat = k := by omega
                  have hkw : IntKind.i64.wrap ((k : Int) + 1) = ((k + 1 : Nat) : Int) := by rw [IntKind.wrap_i64]; have := HQs.out.2.1; have := HNN.out; omega
                  have HKN : Keep (k < m) := ⟨hkt⟩
                  obtain ⟨q2, hq2⟩ : ∃ q, Qs[k]? = some q := ⟨_, List.getElem?_eq_getElem (by rw [HQs.out.1]; exact hkt)⟩
                  have Hq2 := Keep.mk hq2
                  obtain ⟨gO, hgO⟩ := row_blk HB.out k0m (by omega)
                  subst hgO
                  have HLq1 : Keep (∀ w, Sep W w (rowV 29 16 (.slice (some ⟨gO, 0, none⟩) m cO) m (fl qE (Qs)) :: (Qs.map qA ++ B)) → Ls snv 5 w q1.2.2.1 q1.2.2.2) := ⟨fun w hw => Ls.own (e := 33) snv_len hw (List.mem_cons_of_mem _ (List.mem_append_left _ (List.mem_map.2 ⟨q1, List.mem_of_getElem? Hq1.out, rfl⟩)))⟩
                  have HLq2 : Keep (∀ w, Sep W w (rowV 29 16 (.slice (some ⟨gO, 0, none⟩) m cO) m (fl qE (Qs)) :: (Qs.map qA ++ B)) → Ls snv 5 w q2.2.2.1 q2.2.2.2) := ⟨fun w hw => Ls.own (e := 33) snv_len hw (List.mem_cons_of_mem _ (List.mem_append_left _ (List.mem_map.2 ⟨q2, List.mem_of_getElem? Hq2.out, rfl⟩)))⟩
                  have HCL : Keep (q1.2.2.2.length ≤ 281474976710656) := ⟨by have := (HQs.out.2.2 q1 (List.mem_of_getElem? Hq1.out)).2; omega⟩
                  obtain ⟨bb, hbb⟩ : ∃ bb, decide (q1.1 = q2.1 ∧ q1.2.1 = q2.2.1 ∧ q1.2.2.2 = q2.2.2.2) = bb := ⟨_, rfl⟩
                  have HBB := Keep.mk hbb
                  clear hkt hk hq2 hbb
                  go_wp2_with fail
                  refine region_Y (S := fun w' => Sep W w' (rowV 29 16 (.slice (some ⟨gO, 0, none⟩) m cO) m (fl qE (Qs)) :: (Qs.map qA ++ B))) [] (by kernel_rfl) ?_
                  obtain ⟨W0, hW0⟩ : ∃ W_, wr.drew = W_ := ⟨_, rfl⟩
                  replace HB := Keep.mk (HB.out.grown (gr_drew _ none))
                  rw [hW0] at HB ⊢
                  clear hW0
                  have hHeld : (fun w' => Sep W w' (rowV 29 16 (.slice (some ⟨gO, 0, none⟩) m cO) m (fl qE (Qs)) :: (Qs.map qA ++ B))) W0 := HB.out
                  refine yp (i := 0) (v := ?_) rfl (Or.inl ⟨by rfl, ?_⟩) ?_
                  rotate_left
                  · (intro w hSw; go_simp; first | done | (with_reducible rfl))
                  simp only [Act.put, A1, A3, A4, A5, A6]
                  refine yp (i := 1) (v := ?_) rfl (Or.inl ⟨by rfl, ?_⟩) ?_
                  rotate_left
                  · (intro w hSw; go_simp; first | done | (with_reducible rfl))
                  simp only [Act.put, A1, A2, A3, A4, A5, A6]
                  refine yp (i := 2) (v := ?_) rfl (Or.inl ⟨by rfl, ?_⟩) ?_
                  rotate_left
                  · (intro w hSw; go_simp; first | done | (with_reducible rfl))
                  simp only [Act.put, A1, A2, A3, A4, A5, A6]
                  refine yt (i := 3) (v := .agg (qE q1).toArray) rfl (yieldsIf_load_mid (by rfl) 29 _ rfl _ _ rfl _ _ (fun w hSw => fl_range qE_len (hSw.rowGet k0m) (by omega) i q1 Hq1.out) hdv.1 hdv.2 info29) (by assumption) ?_
                  simp only [Act.put, A1, A2, A3, A4, A5, A6]
                  refine yp (i := 4) (v := ?_) rfl (Or.inl ⟨by rfl, ?_⟩) ?_
                  rotate_left
                  · (intro w hSw; go_simp; first | done | (with_reducible rfl))
                  simp only [Act.put, A1, A2, A3, A4, A5, A6]
                  refine yp (i := 5) (v := ?_) rfl (Or.inl ⟨by rfl, ?_⟩) ?_
                  rotate_left
                  · (intro w hSw; go_simp; first | done | (with_reducible rfl))
                  simp only [Act.put, A1, A2, A3, A4, A5, A6]
                  refine yp (i := 6) (v := ?_) rfl (Or.inl ⟨by rfl, ?_⟩) ?_
                  rotate_left
                  · (intro w hSw; go_simp; first | done | (with_reducible rfl))
                  simp only [Act.put, A1, A2, A3, A4, A5, A6]
                  refine yt (i := 7) (v := .agg (qE q2).toArray) rfl (yieldsIf_load_mid (by rfl) 29 _ rfl _ _ rfl _ _ (fun w hSw => fl_range qE_len (hSw.rowGet k0m) (by omega) k q2 Hq2.out) hdv.1 hdv.2 info29) (by assumption) ?_
                  simp only [Act.put, A1, A2, A3, A4, A5, A6]
                  refine yp (i := 9) (v := ?_) rfl (Or.inl ⟨by rfl, ?_⟩) ?_
                  rotate_left
                  · (intro w hSw; go_simp; first | done | (with_reducible rfl))
                  simp only [Act.put, A1, A2, A3, A4, A5, A6]
                  refine yp (i := 10) (v := ?_) rfl (Or.inl ⟨by rfl, ?_⟩) ?_
                  rotate_left
                  · (intro w hSw; go_simp; first | done | (with_reducible rfl))
                  simp only [Act.put, A1, A2, A3, A4, A5, A6]
                  refine yp (i := 11) (v := ?_) rfl (Or.inl ⟨by rfl, ?_⟩) ?_
                  rotate_left
                  · (intro w hSw; go_simp; first | done | (with_reducible rfl))
                  simp only [Act.put, A1, A2, A3, A4, A5, A6]
                  refine yt (i := 12) (v := .agg (qE q1).toArray) rfl (yieldsIf_load_mid (by rfl) 29 _ rfl _ _ rfl _ _ (fun w hSw => fl_range qE_len (hSw.rowGet k0m) (by omega) i q1 Hq1.out) hdv.1 hdv.2 info29) (by assumption) ?_
                  simp only [Act.put, A1, A2, A3, A4, A5, A6]
                  refine yp (i := 13) (v := ?_) rfl (Or.inl ⟨by rfl, ?_⟩) ?_
                  rotate_left
                  · (intro w hSw; go_simp; first | done | (with_reducible rfl))
                  simp only [Act.put, A1, A2, A3, A4, A5, A6]
                  refine yp (i := 14) (v := ?_) rfl (Or.inl ⟨by rfl, ?_⟩) ?_
                  rotate_left
                  · (intro w hSw; go_simp; first | done | (with_reducible rfl))
                  simp only [Act.put, A1, A2, A3, A4, A5, A6]
                  refine yp (i := 15) (v := ?_) rfl (Or.inl ⟨by rfl, ?_⟩) ?_
                  rotate_left
                  · (intro w hSw; go_simp; first | done | (with_reducible rfl))
                  simp only [Act.put, A1, A2, A3, A4, A5, A6]
                  refine yt (i := 16) (v := .agg (qE q2).toArray) rfl (yieldsIf_load_mid (by rfl) 29 _ rfl _ _ rfl _ _ (fun w hSw => fl_range qE_len (hSw.rowGet k0m) (by omega) k q2 Hq2.out) hdv.1 hdv.2 info29) (by assumption) ?_
                  simp only [Act.put, A1, A2, A3, A4, A5, A6]
                  refine wpAnyY_one (i := 8) (by kernel_rfl) rfl (fun K hK => ?_)
                  go_simp
                  refine (eq_c _ q1.1 q2.1 q1.2.1 q2.2.1 q1.2.2.1 q2.2.2.1 q1.2.2.2 q2.2.2.2 (HLq1.out _ HB.out) (HLq2.out _ HB.out) HCL.out).mono ?_
                  rintro e wqe ⟨rfl, gq⟩
                  rw [HBB.out]
                  replace HB := Keep.mk (HB.out.grown gq)
                  refine hK.out _ _ (fun h => h.grown gq) ?_
                  clear hK K gq hHeld
                  have hHeld : (fun w' => Sep W w' (rowV 29 16 (.slice (some ⟨gO, 0, none⟩) m cO) m (fl qE (Qs)) :: (Qs.map qA ++ B))) wqe := HB.out
                  refine wpAnyY_one (i := 17) (by kernel_rfl) rfl (fun K hK => ?_)
                  go_simp
                  refine (req_c _ q1.1 q2.1 q1.2.1 q2.2.1 q1.2.2.1 q2.2.2.1 q1.2.2.2 q2.2.2.2 (HLq1.out _ HB.out) (HLq2.out _ HB.out) HCL.out).mono ?_
                  rintro e wqr ⟨rfl, gq⟩
                  rw [HBB.out]
                  replace HB := Keep.mk (HB.out.grown gq)
                  refine hK.out _ _ (fun h => h.grown gq) ?_
                  clear hK K gq hHeld
                  have hHeld : (fun w' => Sep W w' (rowV 29 16 (.slice (some ⟨gO, 0, none⟩) m cO) m (fl qE (Qs)) :: (Qs.map qA ++ B))) wqr := HB.out
                  refine yp (i := 18) (v := .bool false) rfl (Or.inl ⟨by rfl, ?_⟩) ?_
                  · (intro w hSw; go_simp; first | done | rfl | (simp; done) | trace_state)
                  simp only [Act.put, A1, A2, A3, A4, A5, A6]
                  refine wpAnyY_done (by kernel_rfl) ?_ _
                  clear hHeld
                  go_wp2_with fail
                  go_roundw
                  case rel => exact ⟨k + 1, HKN.out, rfl, HB⟩
                  case measure => simp [intOf]; have := HKN.out; omega
                · have hk1 : ¬ (k : Int) < (m : Int) := by omega
                  clear hkt hk
                  go_wp2_with fail
                  go_roundw
                  case rel => exact ⟨i + 1, HIN.out, rfl, HB⟩
                  case measure => simp [intOf]; have := HIN.out; omega
          · have hlt1 : ¬ (i : Int) < (m : Int) := by omega
            clear hlt hi
            have HR5 := Keep.mk ((HB.out.boxGet (List.mem_cons_of_mem _ (List.mem_append_right _ HBM.out.1))).range)
            have HR2 := Keep.mk ((HB.out.boxGet (List.mem_cons_of_mem _ (List.mem_append_right _ HBM.out.2.2.2))).range)
            go_wp2_with (first
              | (with_reducible show wpList _ _ _ ({ dst := some 146, op := Op.load 56 _, type := _, pos := _, after := _, guard := _ } :: _) _ _
                 refine wpList_load_mid rfl 56 _ rfl _ _ rfl [.int .u64 tick, sl gC nc kC, sl gH ns kH, iv nx, sl gC (nc + 1) kC, sl gH (ns + 1) kH] _ HR5.out hdl.1 hdl.2 info56 ?_)
              | (with_reducible show wpList _ _ _ ({ dst := some 147, op := Op.load 37 _, type := _, pos := _, after := _, guard := _ } :: _) _ _
                 refine wpList_load_mid rfl 37 _ rfl _ _ rfl ([.int .u64 tick, vc, vs, iv nx]) _ HR2.out hds.1 hds.2 info37 ?_))
            refine (still_c wr tick nx tick nx (sl gC nc kC) (sl gH ns kH) (sl gC (nc + 1) kC) (sl gH (ns + 1) kH) vc vs LC LS (Ls.own (e := 26) crv_len HB.out (by rw [List.length_append, HNN.out.1]; exact (List.mem_cons_of_mem _ (List.mem_append_right _ HBM.out.2.1)))) (Ls.own (e := 46) shv_len HB.out (by rw [List.length_append, HNN.out.2.1]; exact (List.mem_cons_of_mem _ (List.mem_append_right _ HBM.out.2.2.1)))) (HST.out.c.kept HB.out.g) (HST.out.s.kept HB.out.g) (by have := HNN.out; omega) (by have := HNN.out; omega)).mono ?_
            rintro e w8 ⟨rfl, g8⟩
            replace HB := Keep.mk (HB.out.grown g8)
            clear g8 HR5 HR2
            have HR5 := Keep.mk ((HB.out.boxGet (List.mem_cons_of_mem _ (List.mem_append_right _ HBM.out.1))).range)
            have HR2 := Keep.mk ((HB.out.boxGet (List.mem_cons_of_mem _ (List.mem_append_right _ HBM.out.2.2.2))).range)
            go_wp2_with (first
              | (with_reducible show wpList _ _ _ ({ dst := some 150, op := Op.load 56 _, type := _, pos := _, after := _, guard := _ } :: _) _ _
                 refine load_g rfl 56 _ rfl _ _ rfl [.int .u64 tick, sl gC nc kC, sl gH ns kH, iv nx, sl gC (nc + 1) kC, sl gH (ns + 1) kH] _ HR5.out hdl.1 hdl.2 info56 ?_)
              | (with_reducible show wpList _ _ _ ({ dst := some 151, op := Op.load 37 _, type := _, pos := _, after := _, guard := _ } :: _) _ _
                 refine load_g rfl 37 _ rfl _ _ rfl ([.int .u64 tick, vc, vs, iv nx]) _ HR2.out hds.1 hds.2 info37 ?_))
            refine (moved_c W w8 (boxA b2 [.int .u64 tick, vc, vs, iv nx] 37 :: []) tick nx tick nx gC kC gH kH nc ns vc vs (.slice aA nA cA) LC LS AL HST.out.c HST.out.s HALs.out HST.out.oc HST.out.os HNN.out.1 HNN.out.2.1 HNN.out.2.2 HNA.out (by
              have q := Sep.dropM (l := B) [] (_ :: Qs.map qA) HB.out
              rw [← HBB0.out] at q
              exact q.tail)).mono ?_
            rintro e w9 ⟨rfl, g9⟩
            have HG := Keep.mk g9
            clear g9 HB
            go_wp2_with fail
            go_ret
            exact ⟨rfl, HG.out⟩

end Go.Proofs.YtgedlabmndlooaaGreat
