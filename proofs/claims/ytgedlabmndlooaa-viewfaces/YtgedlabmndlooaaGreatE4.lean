/- view: what is nearest, handed out one by one -/
import Derived.Test.YtgedlabmndlooaaGreatE3
import Derived.Test.YtgedlabmndlooaaGreatD3
namespace Go.Proofs.YtgedlabmndlooaaGreat
open Go Go.RowKit Go.Maps
attribute [local go_sem] Oper.semAt_some

theorem plF_at : ∀ (L : List Sn) (i : Nat) (p : Pl), p ∈ plF i L → ∃ (j : Nat) (t : Sn), L[j]? = some t ∧ p = ⟨((i + j : Nat) : Int), t.x, t.y⟩
  | [], _, _, h => by cases h
  | t :: r, i, p, h => by
    rw [plF, List.mem_cons] at h
    rcases h with rfl | h
    · exact ⟨0, t, rfl, rfl⟩
    · obtain ⟨j, u, h1, h2⟩ := plF_at r (i + 1) p h
      exact ⟨j + 1, u, by simpa using h1, by rw [h2, show i + 1 + j = i + (j + 1) by omega]⟩
/-- the things that are nearest -/
def nsS (L : List Sn) (x y r q : Int) : List Sn := (nstL (plM L) x y r q).map (fun i => L.getD i.toNat zN)
theorem nst_mem {M : List Pl} {x y r q : Int} {p : Pl} (h : p ∈ nst M x y r q) : p ∈ M := by
  have h1 := List.mem_of_mem_take h
  have h2 := (srtD_perm x y _).mem_iff.1 h1
  exact (List.mem_filter.1 h2).1
theorem nsS_at {L : List Sn} {x y r q : Int} {k : Nat} (hk : k < (nstL (plM L) x y r q).length) : ∃ (j : Nat) (t : Sn), (nstL (plM L) x y r q)[k]? = some (j : Int) ∧ L[j]? = some t ∧ (nsS L x y r q)[k]? = some t := by
  obtain ⟨i, hi⟩ : ∃ i, (nstL (plM L) x y r q)[k]? = some i := ⟨_, List.getElem?_eq_getElem hk⟩
  have h1 := List.mem_of_getElem? hi
  unfold nstL at h1
  obtain ⟨p, hp, rfl⟩ := List.mem_map.1 h1
  obtain ⟨j, t, h2, rfl⟩ := plF_at L 0 p (nst_mem hp)
  have e : ((0 + j : Nat) : Int) = (j : Int) := by omega
  refine ⟨j, t, by rw [hi]; simp only [e], h2, ?_⟩
  unfold nsS
  rw [List.getElem?_map, hi]
  simp [h2]
theorem nstL_len (M : List Pl) (x y r q : Int) : (nstL M x y r q).length ≤ M.length := by
  unfold nstL nst
  rw [List.length_map, List.length_take, (srtD_perm x y _).length_eq]
  exact Nat.le_trans (Nat.min_le_right _ _) (List.length_filter_le _ _)
theorem nsS_len (L : List Sn) (x y r q : Int) : (nsS L x y r q).length = (nstL (plM L) x y r q).length := by unfold nsS; rw [List.length_map]
theorem under24 : ∃ d, Tryz.prog.underlying 24 = some d ∧ d.isRow = true := ⟨_, Tryz.underlying24, rfl⟩
theorem info24 : (Tryz.prog.info? 24).map (·.size) = some 2 := by kernel_rfl
set_option maxRecDepth 100000 in
set_option maxHeartbeats 16000000 in
theorem near_c (w0 W : World) (l : List As) (sb : Nat) (x y q : Int) (h : Sep w0 W l) :
    Calls Tryz.prog 66 #[pt sb, vv x y, iv q] W fun e W' => ∃ b3 b4 b5, e = .returned (.func (.func 78) #[] #[pt b3, pt b4, pt b5]) ∧ Sep w0 W' (boxA b3 [pt sb] 72 :: boxA b4 [iv x, iv y] 24 :: boxA b5 [iv q] 3 :: l) := by
  have S3 := ((h.newBox #[pt sb] 72).newBox #[iv x, iv y] 24).newBox #[iv q] 3
  have HS := Keep.mk S3
  clear S3 h
  go_enter Tryz.func66, Tryz.ntmps66
  go_wp2_with fail
  go_ret
  refine ⟨_, _, _, rfl, ?_⟩
  have q := HS.out
  simp only [World.size_alloc] at q
  exact (q.perm ((List.Perm.swap _ _ _).trans ((List.Perm.swap _ _ _).cons _))).perm ((List.Perm.swap _ _ _).trans (List.Perm.refl _))
set_option maxRecDepth 100000 in
set_option maxHeartbeats 16000000 in
theorem near_seq (n : Nat) (hn : 1 ≤ n) (w0 : World) (b3 b4 b5 sb gb : Nat) (tk vC vT : Value) (r sh x y q sd : Int) (L : List Sn) (hx : I64 x) (hy : I64 y) (hl : L.length * 24 + 24 ≤ 140737488355328) :
    SeqA Fence.wide n Tryz.prog 78 #[pt b3, pt b4, pt b5] (fun s : Sn => #[.agg (snv s).toArray]) w0 [boxA b3 [pt sb] 72, boxA b4 [iv x, iv y] 24, boxA b5 [iv q] 3, boxA sb [tk, iv r, iv sh, vC, vT, pt gb] 80, rowV 33 5 vT L.length (fl snv L), gridA gb sd (plM L)] (fun xs => xs = nsS L x y r q) (fun pre => pre <+: nsS L x y r q) := by
  intro l J Jx W hY h0
  have HB : Keep (Sep w0 W (J [] :: boxA b3 [pt sb] 72 :: boxA b4 [iv x, iv y] 24 :: boxA b5 [iv q] 3 :: boxA sb [tk, iv r, iv sh, vC, vT, pt gb] 80 :: rowV 33 5 vT L.length (fl snv L) :: gridA gb sd (plM L) :: [])) := ⟨h0⟩
  have HY : Keep (∀ pre (s : Sn) W1 KK, (∀ b ∈ boxA b3 [pt sb] 72 :: boxA b4 [iv x, iv y] 24 :: boxA b5 [iv q] 3 :: boxA sb [tk, iv r, iv sh, vC, vT, pt gb] 80 :: rowV 33 5 vT L.length (fl snv L) :: gridA gb sd (plM L) :: [], b ∈ KK) → Sep w0 W1 (J pre :: KK) → YieldAt Fence.wide (n - 1) Tryz.prog l #[.agg (snv s).toArray] W1 fun e W' =>
      (e = .returned (.bool true) ∧ Sep w0 W' (J (pre ++ [s]) :: KK)) ∨ (e = .returned (.bool false) ∧ Sep w0 W' (Jx (pre ++ [s]) :: KK))) := ⟨hY⟩
  have HXY := Keep.mk (And.intro hx hy)
  have HLN : Keep ((plM L).length * 24 + 24 ≤ 140737488355328) := ⟨by rw [plF_len]; exact hl⟩
  have HPM : Keep ((J [] :: boxA b3 [pt sb] 72 :: boxA b4 [iv x, iv y] 24 :: boxA b5 [iv q] 3 :: boxA sb [tk, iv r, iv sh, vC, vT, pt gb] 80 :: rowV 33 5 vT L.length (fl snv L) :: gridA gb sd (plM L) :: []).Perm (gridA gb sd (plM L) :: J [] :: boxA b3 [pt sb] 72 :: boxA b4 [iv x, iv y] 24 :: boxA b5 [iv q] 3 :: boxA sb [tk, iv r, iv sh, vC, vT, pt gb] 80 :: rowV 33 5 vT L.length (fl snv L) :: [])) := ⟨by
    exact List.perm_middle (l₁ := [_, _, _, _, _, _]) (l₂ := [])⟩
  have HPB : Keep (∀ N : As, (N :: gridA gb sd (plM L) :: J [] :: boxA b3 [pt sb] 72 :: boxA b4 [iv x, iv y] 24 :: boxA b5 [iv q] 3 :: boxA sb [tk, iv r, iv sh, vC, vT, pt gb] 80 :: rowV 33 5 vT L.length (fl snv L) :: []).Perm (J [] :: N :: boxA b3 [pt sb] 72 :: boxA b4 [iv x, iv y] 24 :: boxA b5 [iv q] 3 :: boxA sb [tk, iv r, iv sh, vC, vT, pt gb] 80 :: rowV 33 5 vT L.length (fl snv L) :: gridA gb sd (plM L) :: [])) := ⟨fun N => by
    refine (List.Perm.cons N (HPM.out.symm)).trans ?_
    exact List.Perm.swap _ _ _⟩
  obtain ⟨dv, hdv⟩ := under24
  obtain ⟨du, hdu⟩ := under33
  clear hY h0 hx hy hl
  refine callsIn_of_wp Tryz.func78 rfl trivial ?_ rfl
  simp only [Tryz.ntmps78, List.size_toArray, List.length_cons, List.length_nil, Nat.reduceAdd, Nat.reduceSub, Array.replicate_succ, Array.replicate_zero, List.push_toArray, List.append_toArray, List.nil_append, List.cons_append]
  gi_wp2_with fail
  refine wpIn_wide.2 ?_
  refine region_Y (S := fun w' => Sep w0 w' (J [] :: boxA b3 [pt sb] 72 :: boxA b4 [iv x, iv y] 24 :: boxA b5 [iv q] 3 :: boxA sb [tk, iv r, iv sh, vC, vT, pt gb] 80 :: rowV 33 5 vT L.length (fl snv L) :: gridA gb sd (plM L) :: [])) [] (by kernel_rfl) ?_
  obtain ⟨W0, hW0⟩ : ∃ W_, W.drew = W_ := ⟨_, rfl⟩
  replace HB := Keep.mk (HB.out.grown (gr_drew _ none))
  rw [hW0] at HB ⊢
  clear hW0
  have hHeld : (fun w' => Sep w0 w' (J [] :: boxA b3 [pt sb] 72 :: boxA b4 [iv x, iv y] 24 :: boxA b5 [iv q] 3 :: boxA sb [tk, iv r, iv sh, vC, vT, pt gb] 80 :: rowV 33 5 vT L.length (fl snv L) :: gridA gb sd (plM L) :: [])) W0 := HB.out
  refine yt (i := 0) (v := ?_) rfl (Or.inl ⟨by rfl, ?_⟩) (by assumption) ?_
  rotate_left
  · (intro w hSw; have q := (hSw.boxGet k1m).cellv 0 _ rfl; go_simp; first | done | (with_reducible rfl))
  simp only [Act.put, A1, A3, A4, A5, A6]
  refine yp (i := 1) (v := ?_) rfl (Or.inl ⟨by rfl, ?_⟩) ?_
  rotate_left
  · (intro w hSw; go_simp; first | done | (with_reducible rfl))
  simp only [Act.put, A1, A2, A3, A4, A5, A6]
  refine yp (i := 2) (v := ?_) rfl (Or.inl ⟨by rfl, ?_⟩) ?_
  rotate_left
  · (intro w hSw; go_simp; first | done | (with_reducible rfl))
  simp only [Act.put, A1, A2, A3, A4, A5, A6]
  refine yt (i := 3) (v := ?_) rfl (Or.inl ⟨by rfl, ?_⟩) (by assumption) ?_
  rotate_left
  · (intro w hSw; have q := (hSw.boxGet k4m).cellv 5 _ rfl; go_simp; first | done | (with_reducible rfl))
  simp only [Act.put, A1, A2, A3, A4, A5, A6]
  refine yt (i := 4) (v := .agg ([iv x, iv y]).toArray) rfl (yieldsIf_load_mid (by rfl) 24 _ rfl _ _ rfl _ _ (fun w hSw => (hSw.boxGet k2m).range) hdv.1 hdv.2 info24) (by assumption) ?_
  simp only [Act.put, A1, A2, A3, A4, A5, A6]
  refine yt (i := 5) (v := ?_) rfl (Or.inl ⟨by rfl, ?_⟩) (by assumption) ?_
  rotate_left
  · (intro w hSw; have q := (hSw.boxGet k1m).cellv 0 _ rfl; go_simp; first | done | (with_reducible rfl))
  simp only [Act.put, A1, A2, A3, A4, A5, A6]
  refine yp (i := 6) (v := ?_) rfl (Or.inl ⟨by rfl, ?_⟩) ?_
  rotate_left
  · (intro w hSw; go_simp; first | done | (with_reducible rfl))
  simp only [Act.put, A1, A2, A3, A4, A5, A6]
  refine yp (i := 7) (v := ?_) rfl (Or.inl ⟨by rfl, ?_⟩) ?_
  rotate_left
  · (intro w hSw; go_simp; first | done | (with_reducible rfl))
  simp only [Act.put, A1, A2, A3, A4, A5, A6]
  refine yt (i := 8) (v := ?_) rfl (Or.inl ⟨by rfl, ?_⟩) (by assumption) ?_
  rotate_left
  · (intro w hSw; have q := (hSw.boxGet k4m).cellv 1 _ rfl; go_simp; first | done | (with_reducible rfl))
  simp only [Act.put, A1, A2, A3, A4, A5, A6]
  refine yt (i := 9) (v := ?_) rfl (Or.inl ⟨by rfl, ?_⟩) (by assumption) ?_
  rotate_left
  · (intro w hSw; have q := (hSw.boxGet k3m).cellv 0 _ rfl; go_simp; first | done | (with_reducible rfl))
  simp only [Act.put, A1, A2, A3, A4, A5, A6]
  refine yp (i := 12) (v := ?_) rfl (Or.inl ⟨by rfl, ?_⟩) ?_
  rotate_left
  · (intro w hSw; go_simp; first | done | (with_reducible rfl))
  simp only [Act.put, A1, A2, A3, A4, A5, A6]
  refine wpAnyY_one (i := 10) (by kernel_rfl) rfl (fun K hK => ?_)
  go_simp
  refine (nearest_c w0 W0 _ gb sd (plM L) x y r q HXY.out.1 HXY.out.2 HLN.out (HB.out.perm HPM.out)).mono ?_
  rintro e W2 ⟨v, rfl, S2⟩
  obtain ⟨aN, cN, rfl⟩ := own_slice (S2.rowGet k0m)
  obtain ⟨m, hm⟩ : ∃ m, (nstL (plM L) x y r q).length = m := ⟨_, rfl⟩
  have HM := Keep.mk hm
  have HB2 : Keep (Sep w0 W2 (J [] :: rowV 3 1 (.slice aN m cN) m ((nstL (plM L) x y r q).map iv) :: boxA b3 [pt sb] 72 :: boxA b4 [iv x, iv y] 24 :: boxA b5 [iv q] 3 :: boxA sb [tk, iv r, iv sh, vC, vT, pt gb] 80 :: rowV 33 5 vT L.length (fl snv L) :: gridA gb sd (plM L) :: [])) := ⟨by
    change Sep w0 W2 (rowV 3 1 _ (nstL (plM L) x y r q).length _ :: _) at S2
    rw [hm] at S2
    exact S2.perm (HPB.out _)⟩
  have HMB : Keep (m ≤ 281474976710656) := ⟨by
    have := nstL_len (plM L) x y r q
    have := HLN.out
    omega⟩
  rw [hm]
  refine hK.out _ _ (fun _ => Sep.dropM [_] [_] HB2.out) ?_
  clear hK K S2 hm HB hHeld
  refine yp (i := 11) (v := ?_) rfl (Or.inl ⟨by rfl, ?_⟩) ?_
  rotate_left
  · (intro w hSw; go_simp; first | done | (with_reducible rfl))
  simp only [Act.put, A1, A2, A3, A4, A5, A6]
  refine wpAnyY_done (by kernel_rfl) ?_ _
  clear HPM HPB
  gi_wp2_with fail
  gi_loopw [6, 19] (fun u6 u19 wr => ∃ k : Nat, k ≤ m ∧ u19 = iv k ∧ Keep (Sep w0 wr (J ((nsS L x y r q).take k) :: rowV 3 1 (.slice aN m cN) m ((nstL (plM L) x y r q).map iv) :: boxA b3 [pt sb] 72 :: boxA b4 [iv x, iv y] 24 :: boxA b5 [iv q] 3 :: boxA sb [tk, iv r, iv sh, vC, vT, pt gb] 80 :: rowV 33 5 vT L.length (fl snv L) :: gridA gb sd (plM L) :: []))) (fun _ u19 _ => (m - intOf u19).toNat)
  case atStart => exact ⟨0, by omega, rfl, HB2⟩
  case round =>
    clear HB2
    obtain ⟨k, hk, rfl, HB⟩ := hrel
    by_cases hlt : k < m
    · have hlt1 : (k : Int) < (m : Int) := by omega
      have hk0 : (0 : Int) ≤ (k : Int) := by omega
      have hkt : ((k : Nat) : Int).toNat = k := by omega
      obtain ⟨j, t, h1, h2, h3⟩ := nsS_at (L := L) (x := x) (y := y) (r := r) (q := q) (k := k) (by rw [HM.out]; exact hlt)
      obtain ⟨gN, c', e, hc⟩ := own_any (HB.out.rowGet k1m) (by omega)
      injection e with e1 _ e3
      subst e1 e3
      have hjl : j < L.length := (List.getElem?_eq_some_iff.1 h2).1
      have cN1 := (hc k (iv j) (by rw [List.getElem?_map, h1]; rfl)).1
      obtain ⟨n2, hn2⟩ : ∃ n2, L.length = n2 := ⟨_, rfl⟩
      have HN2 := Keep.mk hn2
      rw [hn2] at hjl
      obtain ⟨gT, cT, e2⟩ : ∃ g c, vT = sl g n2 c := by
        obtain ⟨g, c, e, _⟩ := own_any (HB.out.rowGet (List.mem_cons_of_mem _ (List.mem_cons_of_mem _ k4m))) (by rw [hn2]; omega)
        exact ⟨g, c, by rw [e, hn2]⟩
      subst e2
      have HRG : Keep (wr.rangeAt gT (j * 5) (snv t)) := ⟨fl_range snv_len (by have q := HB.out.rowGet (List.mem_cons_of_mem _ (List.mem_cons_of_mem _ k4m)); rw [hn2] at q; exact q) (by omega) j t h2⟩
      have c3 := (HB.out.boxGet k2m).cellv 0 _ rfl
      have c4 := (HB.out.boxGet k5m).cellv 4 _ rfl
      have hj1 : (j : Int) < (n2 : Int) := by omega
      have hj0 : (0 : Int) ≤ (j : Int) := by omega
      have hjt : ((j : Nat) : Int).toNat = j := by omega
      have HTK : Keep ((nsS L x y r q).take (k + 1) = (nsS L x y r q).take k ++ [t]) := ⟨by rw [List.take_add_one, h3]; rfl⟩
      obtain ⟨fn, tmps, assign, body, hy, hRd⟩ := HY.out _ t wr _ (fun b hb => List.mem_cons_of_mem _ hb) HB.out
      have HKM : Keep (k < m) := ⟨hlt⟩
      have hiw : IntKind.i64.wrap ((k : Int) + 1) = ((k + 1 : Nat) : Int) := by have := HMB.out; rw [IntKind.wrap_i64]; omega
      rw [← HTK.out] at hRd
      clear h1 h2 h3 hc hn2 hlt hk
      gi_wp2_with (
        (show wpListIn _ _ _ _ _ ({ dst := _, op := Op.load 33 _, type := _, pos := _, after := _, guard := _ } :: _) _ _
         refine wpListIn_load_mid rfl 33 _ rfl _ _ rfl (snv t) _ HRG.out hdu.1 hdu.2 info33 ?_
         generalize (snv t).toArray = SA at hy ⊢))
      refine hRd.mono ?_
      rintro e W3 (⟨rfl, S3⟩ | ⟨rfl, S3⟩)
      · have H3 := Keep.mk S3
        clear S3 hRd hy HB cN1 c3 c4
        gi_wp2_with fail
        exact ⟨⟨k + 1, HKM.out, rfl, H3⟩, by simp only [intOf]; have := HKM.out; omega⟩
      · have H3 := Keep.mk S3
        clear S3 hRd hy HB cN1 c3 c4
        gi_wp2_with fail
        refine bodyPost_ret (results_none rfl _ _ _) rfl ?_
        exact ⟨⟨_, rfl⟩, .inr ⟨_, List.take_prefix _ _, Sep.dropM [_] [_] H3.out⟩⟩
    · obtain rfl : k = m := by omega
      have HE : Keep (Sep w0 wr (J (nsS L x y r q) :: boxA b3 [pt sb] 72 :: boxA b4 [iv x, iv y] 24 :: boxA b5 [iv q] 3 :: boxA sb [tk, iv r, iv sh, vC, vT, pt gb] 80 :: rowV 33 5 vT L.length (fl snv L) :: gridA gb sd (plM L) :: [])) := ⟨by
        have q1 := HB.out
        rw [List.take_of_length_le (by rw [nsS_len, HM.out]; exact Nat.le_refl _)] at q1
        exact Sep.dropM [_] [_] q1⟩
      clear HB
      gi_wp2_with fail
      go_end0
      exact ⟨⟨_, rfl⟩, .inl ⟨_, rfl, HE.out⟩⟩
end Go.Proofs.YtgedlabmndlooaaGreat
