/- grid: within. -/
import Derived.Test.YtgedlabmndlooaaGreatH3
namespace Go.Proofs.YtgedlabmndlooaaGreat
open Go Go.RowKit

set_option maxRecDepth 100000 in
theorem perm_of_mem : ∀ (A B : List Tg), A.Pairwise (fun a b => a.b ≠ b.b) → B.Pairwise (fun a b => a.b ≠ b.b) → (∀ t, t ∈ A ↔ t ∈ B) → A.Perm B
  | [], [], _, _, _ => List.Perm.refl _
  | [], b :: B, _, _, h => by have := (h b).2 (List.mem_cons_self ..); cases this
  | a :: A, B, hA, hB, h => by
    obtain ⟨B', hp⟩ := mem_perm ((h a).1 (List.mem_cons_self ..))
    obtain ⟨a1, a2⟩ := List.pairwise_cons.1 hA
    obtain ⟨b1, b2⟩ := List.pairwise_cons.1 ((hp.pairwise_iff (R := fun a b : Tg => a.b ≠ b.b) (fun {_ _} q => Ne.symm q)).1 hB)
    refine ((perm_of_mem A B' a2 b2 fun t => ⟨fun ht => ?_, fun ht => ?_⟩).cons a).trans hp.symm
    · rcases List.mem_cons.1 (hp.mem_iff.1 ((h t).1 (List.mem_cons_of_mem _ ht))) with rfl | q
      · exact absurd rfl (a1 t ht)
      · exact q
    · rcases List.mem_cons.1 ((h t).2 (hp.mem_iff.2 (List.mem_cons_of_mem _ ht))) with rfl | q
      · exact absurd rfl (b1 t ht)
      · exact q
/-- the things that are near -/
def nrT (A : List Tg) (x y r : Int) : List Tg := A.filter (fun t => wn (d2 x y t.x t.y) r)
set_option maxRecDepth 100000 in
theorem Abt.perm {A T : List Tg} {x y r : Int} (h : Abt A x y r T) (hA : A.Pairwise (fun a b => a.b ≠ b.b)) : (nrT T x y r).Perm (nrT A x y r) := by
  unfold nrT
  refine perm_of_mem _ _ (List.Pairwise.sublist List.filter_sublist h.nd) (List.Pairwise.sublist List.filter_sublist hA) fun t => ?_
  rw [List.mem_filter, List.mem_filter]
  exact ⟨fun q => ⟨h.sub t q.1, q.2⟩, fun q => ⟨h.cov t q.1 q.2, q.2⟩⟩
set_option maxRecDepth 100000 in
theorem few_things {T A : List Tg} (hs : ∀ c ∈ T, c ∈ A) (hk : T.Pairwise (fun a b => a.b ≠ b.b)) : T.length ≤ A.length := by
  induction T generalizing A with
  | nil => simp
  | cons c F ih =>
    obtain ⟨h1, h2⟩ := List.pairwise_cons.1 hk
    obtain ⟨D, hD⟩ := mem_perm (hs c (List.mem_cons_self ..))
    have h3 := ih (A := D) (fun d hd => by
      rcases List.mem_cons.1 (hD.mem_iff.1 (hs d (List.mem_cons_of_mem _ hd))) with rfl | q
      · exact absurd rfl (h1 d hd)
      · exact q) h2
    rw [hD.length_eq, List.length_cons, List.length_cons]
    omega
def NN (LL : List (Value × List Tg)) (x y r : Int) (j : Nat) : List Tg := nrT ((LL.take j).flatMap (·.2)) x y r
def NI (LL : List (Value × List Tg)) (x y r : Int) (j : Nat) (T : List Tg) (i : Nat) : List Tg := NN LL x y r j ++ nrT (T.take i) x y r
set_option maxRecDepth 100000 in
theorem NI_zero (LL : List (Value × List Tg)) (x y r : Int) (j : Nat) (T : List Tg) : NI LL x y r j T 0 = NN LL x y r j := by simp [NI, nrT]
set_option maxRecDepth 100000 in
theorem NI_yes {LL : List (Value × List Tg)} {x y r : Int} {j : Nat} {T : List Tg} {i : Nat} {t : Tg} (ht : T[i]? = some t) (hw : wn (d2 x y t.x t.y) r = true) : NI LL x y r j T (i + 1) = NI LL x y r j T i ++ [t] := by
  unfold NI nrT
  rw [List.take_add_one, ht, Option.toList, List.filter_append, List.append_assoc]
  simp [hw]
set_option maxRecDepth 100000 in
theorem NI_no {LL : List (Value × List Tg)} {x y r : Int} {j : Nat} {T : List Tg} {i : Nat} {t : Tg} (ht : T[i]? = some t) (hw : wn (d2 x y t.x t.y) r = false) : NI LL x y r j T (i + 1) = NI LL x y r j T i := by
  unfold NI nrT
  rw [List.take_add_one, ht, Option.toList, List.filter_append]
  simp [hw]
set_option maxRecDepth 100000 in
theorem NN_next {LL : List (Value × List Tg)} {x y r : Int} {j : Nat} {p : Value × List Tg} (hp : LL[j]? = some p) : NN LL x y r (j + 1) = NI LL x y r j p.2 p.2.length := by
  unfold NI NN nrT
  rw [List.take_add_one, hp, Option.toList, List.flatMap_append, List.filter_append]
  simp
set_option maxRecDepth 100000 in
theorem NI_len {A : List Tg} {LL : List (Value × List Tg)} {x y r : Int} (h : Abt A x y r (LL.flatMap (·.2))) {j : Nat} {p : Value × List Tg} (hp : LL[j]? = some p) (i : Nat) : (NI LL x y r j p.2 i).length ≤ A.length := by
  have h1 : (NI LL x y r j p.2 i).length ≤ (NI LL x y r j p.2 p.2.length).length := by
    unfold NI nrT
    rw [List.length_append, List.length_append, List.take_length]
    have : ((p.2.take i).filter (fun t => wn (d2 x y t.x t.y) r)).length ≤ (p.2.filter (fun t => wn (d2 x y t.x t.y) r)).length := ((List.take_sublist i p.2).filter _).length_le
    omega
  rw [← NN_next hp] at h1
  have h2 : (NN LL x y r (j + 1)).length ≤ (LL.flatMap (·.2)).length := by
    unfold NN nrT
    refine Nat.le_trans (List.length_filter_le _ _) ?_
    conv => rhs; rw [← List.take_append_drop (j + 1) LL]
    rw [List.flatMap_append, List.length_append]
    omega
  exact Nat.le_trans (Nat.le_trans h1 h2) (few_things h.sub h.nd)
structure WiR (w0 W : World) (A : List Tg) (x y r : Int) (G : List As) (v : Value) : Prop where
  o : ∃ N : List Tg, N.Perm (nrT A x y r) ∧ Sep w0 W (rowV 119 1 v N.length (N.map (fun t => pt t.b)) :: G)

set_option maxRecDepth 100000 in
set_option maxHeartbeats 16000000 in
theorem gwithin_c (w0 W : World) (l : List As) (gb : Nat) (sd : Int) (M : List Pl) (va : Value) (mi mc : Nat) (A : List Tg) (C : List Cl) (g : Gok sd A C M) (x y r : Int) (hx : I64 x) (hy : I64 y) (hn : M.length * 24 + 24 ≤ 140737488355328) (h : Sep w0 W (gOpen gb sd va mi mc A C l)) :
    Calls Tryz.prog 89 #[pt gb, vv x y, iv r] W fun e W' => ∃ v, e = .returned v ∧ WiR w0 W' A x y r (gOpen gb sd va mi mc A C l) v := by
  have S1 := h.newBox #[iv x, iv y] 24
  obtain ⟨W1, hW1⟩ : ∃ W1, W.alloc (.cells #[iv x, iv y] 24) = W1 := ⟨_, rfl⟩
  obtain ⟨ab, hab⟩ : ∃ b, W.heap.size = b := ⟨_, rfl⟩
  rw [hW1, hab] at S1
  have x0 := (S1.boxGet k0m).cellv 0 _ rfl
  have x1 := (S1.boxGet k0m).cellv 1 _ rfl
  have HA := Keep.mk (about_c w0 W1 (boxA ab [iv x, iv y] 24 :: l) gb sd M va mi mc A C g x y r hx hy hn (g_in S1))
  have HG := Keep.mk g
  have HI := Keep.mk (And.intro hx hy)
  have HN : Keep (A.length * 8 + 8 ≤ 140737488355328) := ⟨by have := g.len; omega⟩
  clear h S1 g hx hy hn
  go_enter Tryz.func89, Tryz.ntmps89
  go_wp2_with fail
  refine HA.out.mono ?_
  rintro e W2 ⟨v, rfl, ⟨LL, hab2, hrow, hbn, S2⟩⟩
  obtain ⟨a, c, rfl⟩ := own_slice (S2.rowGet k0m)
  obtain ⟨n, hln⟩ : ∃ n, LL.length = n := ⟨_, rfl⟩
  rw [hln] at S2 hbn ⊢
  have hnn : n < 1000000000000000000 := by have := HN.out; omega
  clear hbn
  have HLN := Keep.mk hln
  have HAB := Keep.mk hab2
  have HS0 : Keep (Sep w0 W2 (rowV 119 1 (.slice none 0 0) 0 [] :: rowV 101 1 (.slice a n c) n (LL.map (·.1)) :: boxA ab [iv x, iv y] 24 :: gOpen gb sd va mi mc A C l)) := ⟨by
    have q : Sep w0 W2 ([rowV 101 1 (.slice a n c) n (LL.map (·.1))] ++ gOpen gb sd va mi mc A C (boxA ab [iv x, iv y] 24 :: l)) := S2
    have q2 : Sep w0 W2 (rowV 101 1 (.slice a n c) n (LL.map (·.1)) :: boxA ab [iv x, iv y] 24 :: gOpen gb sd va mi mc A C l) := by
      rw [← gOpen_app] at q ⊢
      exact q.perm ((List.perm_middle (l₁ := gOpen gb sd va mi mc A C [])).cons _)
    exact q2.nilV 119 1⟩
  have HROW : Keep (∀ p ∈ LL, tRow p ∈ boxA ab [iv x, iv y] 24 :: gOpen gb sd va mi mc A C l) := ⟨fun p hp => by
    have q := hrow p hp
    have hm : ∀ z : As, z ∈ gOpen gb sd va mi mc A C (boxA ab [iv x, iv y] 24 :: l) ↔ z ∈ boxA ab [iv x, iv y] 24 :: gOpen gb sd va mi mc A C l := fun z => by
      rw [← gOpen_app, ← gOpen_app gb sd va mi mc A C l]
      exact (List.perm_middle (l₁ := gOpen gb sd va mi mc A C [])).mem_iff
    exact (hm _).1 q⟩
  clear S2 HA hrow hab2 hln x0 x1
  go_wp2_with fail
  clear hW1 hab
  go_loopw [7, 17] (fun u7 u17 wr => ∃ j : Nat, j ≤ n ∧ u17 = iv j ∧ Keep (Sep w0 wr (rowV 119 1 u7 (NN LL x y r j).length ((NN LL x y r j).map (fun t => pt t.b)) :: rowV 101 1 (.slice a n c) n (LL.map (·.1)) :: boxA ab [iv x, iv y] 24 :: gOpen gb sd va mi mc A C l))) (fun _ u17 _ => (n - intOf u17).toNat)
  case atStart => exact ⟨0, by omega, rfl, ⟨by simpa [NN, nrT] using HS0.out⟩⟩
  case round =>
    clear HS0
    obtain ⟨j, hj, rfl, hS⟩ := hrel
    by_cases hlt : j < n
    · obtain ⟨⟨pv, T⟩, hp⟩ : ∃ p, LL[j]? = some p := ⟨_, List.getElem?_eq_getElem (by rw [HLN.out]; exact hlt)⟩
      obtain ⟨g1, c1, e1, hq⟩ := own_any (hS.out.rowGet k1m) (by omega)
      injection e1 with e1 _ e3
      subst e1 e3
      have hmem := HROW.out (pv, T) (List.mem_of_getElem? hp)
      have hmem2 : tRow (pv, T) ∈ rowV 119 1 u7 (NN LL x y r j).length ((NN LL x y r j).map (fun t => pt t.b)) :: rowV 101 1 (sl g1 n c) n (LL.map (·.1)) :: boxA ab [iv x, iv y] 24 :: gOpen gb sd va mi mc A C l := List.mem_cons_of_mem _ (List.mem_cons_of_mem _ hmem)
      obtain ⟨a2, c2, e2⟩ := own_slice (hS.out.rowGet hmem2)
      change pv = Value.slice a2 T.length c2 at e2
      subst e2
      obtain ⟨m, hm⟩ : ∃ m, T.length = m := ⟨_, rfl⟩
      have l1 := (hq j (.slice a2 T.length c2) (by rw [List.getElem?_map, hp]; rfl)).1
      rw [hm] at l1
      have hi0 : (j : Int) < (n : Int) := by omega
      have HP := Keep.mk hp
      have HM := Keep.mk hm
      have hmm : m < 1000000000000000000 := by
        have q := few_things (T := T) (A := A) (fun t ht => HAB.out.sub t (List.mem_flatMap.2 ⟨_, List.mem_of_getElem? hp, ht⟩)) (by
          have q := HAB.out.nd
          obtain ⟨L1, L2, e⟩ := List.append_of_mem (List.mem_of_getElem? hp)
          rw [e, List.flatMap_append, List.flatMap_cons] at q
          exact (List.pairwise_append.1 (List.pairwise_append.1 q).2.1).1)
        have := HN.out
        omega
      clear hq hmem hmem2 hp hm
      go_wp2_with fail
      clear l1
      go_loopw [7, 23] (fun u7 u23 wz => ∃ i : Nat, i ≤ m ∧ u23 = iv i ∧ Keep (Sep w0 wz (rowV 119 1 u7 (NI LL x y r j T i).length ((NI LL x y r j T i).map (fun t => pt t.b)) :: rowV 101 1 (sl g1 n c) n (LL.map (·.1)) :: boxA ab [iv x, iv y] 24 :: gOpen gb sd va mi mc A C l))) (fun _ u23 _ => (m - intOf u23).toNat)
      case atStart => exact ⟨0, by omega, rfl, ⟨by rw [NI_zero]; exact hS.out⟩⟩
      case round =>
        clear hS
        rename_i u7' _ _
        obtain ⟨i, hi, rfl, hS⟩ := hrel
        by_cases hlu : i < m
        · obtain ⟨t, ht⟩ : ∃ t, T[i]? = some t := ⟨_, List.getElem?_eq_getElem (by rw [HM.out]; exact hlu)⟩
          have hmem := HROW.out (.slice a2 T.length c2, T) (List.mem_of_getElem? HP.out)
          have hmem2 : tRow (.slice a2 T.length c2, T) ∈ rowV 119 1 u7 (NI LL x y r j T i).length ((NI LL x y r j T i).map (fun t => pt t.b)) :: rowV 101 1 (sl g1 n c) n (LL.map (·.1)) :: boxA ab [iv x, iv y] 24 :: gOpen gb sd va mi mc A C l := List.mem_cons_of_mem _ (List.mem_cons_of_mem _ hmem)
          obtain ⟨g2, c2', e1, hq⟩ := own_any (hS.out.rowGet hmem2) (by rw [HM.out]; omega)
          injection e1 with e1 _ e3
          subst e1 e3
          have l1 := (hq i (pt t.b) (by rw [List.getElem?_map, ht]; rfl)).1
          have htT : t ∈ LL.flatMap (·.2) := List.mem_flatMap.2 ⟨_, List.mem_of_getElem? HP.out, List.mem_of_getElem? ht⟩
          have htA := HAB.out.sub t htT
          have HT : Keep (boxA t.b [iv t.id, iv t.x, iv t.y, iv t.s, iv t.p] 122 ∈ rowV 119 1 u7 (NI LL x y r j T i).length ((NI LL x y r j T i).map (fun t => pt t.b)) :: rowV 101 1 (sl g1 n c) n (LL.map (·.1)) :: boxA ab [iv x, iv y] 24 :: gOpen gb sd va mi mc A C l) := ⟨List.mem_cons_of_mem _ (List.mem_cons_of_mem _ (List.mem_cons_of_mem _ (m_tg htA)))⟩
          have HW := Keep.mk (fun w => within_c x y t.x t.y r HI.out.1 HI.out.2 (HG.out.rg t htA).2.1 (HG.out.rg t htA).2.2 w)
          have hi1 : (i : Int) < (m : Int) := by omega
          have hii : IntKind.i64.wrap ((i : Int) + 1) = ((i + 1 : Nat) : Int) := by rw [IntKind.wrap_i64]; omega
          have HNL : Keep (((NI LL x y r j T i).length + 1) * 8 ≤ 140737488355328) := ⟨by have := NI_len HAB.out HP.out i; have := HN.out; simp only at *; omega⟩
          have HTT := Keep.mk ht
          obtain ⟨b, hb⟩ : ∃ b, wn (d2 x y t.x t.y) r = b := ⟨_, rfl⟩
          rw [hb] at HW
          have HBB := Keep.mk hb
          have HB := hS
          clear hq hmem hmem2 ht htT htA hb hS
          cases b
          case false =>
            have HE : Keep (NI LL x y r j T (i + 1) = NI LL x y r j T i) := ⟨NI_no HTT.out HBB.out⟩
            go_wp2_with fail
            clear l1
            refine region_X (S := fun w' => Sep w0 w' (rowV 119 1 u7 (NI LL x y r j T i).length ((NI LL x y r j T i).map (fun t => pt t.b)) :: rowV 101 1 (sl g1 n c) n (LL.map (·.1)) :: boxA ab [iv x, iv y] 24 :: gOpen gb sd va mi mc A C l)) [] (by kernel_rfl) (HB.out.grown (gr_drew _ _)) (fun hHeld => ?_)
            replace HB := Keep.mk hHeld
            obtain ⟨W0, hW0⟩ : ∃ W_, wr.drew = W_ := ⟨_, rfl⟩
            rw [hW0] at HB hHeld ⊢
            clear hW0
            refine wpAnyX_take (i := 0) (oi := _) (v := .agg #[iv x, iv y]) rfl (by kernel_rfl) (by kernel_rfl) (by kernel_rfl) (by kernel_rfl) (by kernel_rfl) (fun _ _ _ h => h) (Or.inl ⟨by rfl, ?_⟩) (by assumption) ?_
            · (intro w hSw; have q0 := (hSw.boxGet k2m).cellv 0 _ rfl; have q1 := (hSw.boxGet k2m).cellv 1 _ rfl; go_simp; first | done | rfl | (simp; done) | trace_state)
            simp only [Act.put, A1, A3, A4, A5, A6]
            refine wpAnyX_take (i := 1) (oi := _) (v := ?_) rfl (by kernel_rfl) (by kernel_rfl) (by kernel_rfl) (by kernel_rfl) (by kernel_rfl) (fun _ _ _ h => h) (Or.inl ⟨by rfl, ?_⟩) (by assumption) ?_
            rotate_left
            · (intro w hSw; go_simp; first | done | (with_reducible rfl))
            simp only [Act.put, A1, A2, A3, A4, A5, A6]
            refine wpAnyX_take (i := 2) (oi := _) (v := ?_) rfl (by kernel_rfl) (by kernel_rfl) (by kernel_rfl) (by kernel_rfl) (by kernel_rfl) (fun _ _ _ h => h) (Or.inl ⟨by rfl, ?_⟩) (by assumption) ?_
            rotate_left
            · (intro w hSw; go_simp; first | done | (with_reducible rfl))
            simp only [Act.put, A1, A2, A3, A4, A5, A6]
            refine wpAnyX_take (i := 3) (oi := _) (v := ?_) rfl (by kernel_rfl) (by kernel_rfl) (by kernel_rfl) (by kernel_rfl) (by kernel_rfl) (fun _ _ _ h => h) (Or.inl ⟨by rfl, ?_⟩) (by assumption) ?_
            rotate_left
            · (intro w hSw; go_simp; first | done | (with_reducible rfl))
            simp only [Act.put, A1, A2, A3, A4, A5, A6]
            refine wpAnyX_take (i := 4) (oi := _) (v := .agg #[iv t.x, iv t.y]) rfl (by kernel_rfl) (by kernel_rfl) (by kernel_rfl) (by kernel_rfl) (by kernel_rfl) (fun _ _ _ h => h) (Or.inl ⟨by rfl, ?_⟩) (by assumption) ?_
            · (intro w hSw; have q0 := (hSw.boxGet HT.out).cellv 1 _ rfl; have q1 := (hSw.boxGet HT.out).cellv 2 _ rfl; go_simp; first | done | rfl | (simp; done) | trace_state)
            simp only [Act.put, A1, A2, A3, A4, A5, A6]
            refine wpAnyX_take (i := 5) (oi := _) (v := ?_) rfl (by kernel_rfl) (by kernel_rfl) (by kernel_rfl) (by kernel_rfl) (by kernel_rfl) (fun _ _ _ h => h) (Or.inl ⟨by rfl, ?_⟩) (by assumption) ?_
            rotate_left
            · (intro w hSw; go_simp; first | done | (with_reducible rfl))
            simp only [Act.put, A1, A2, A3, A4, A5, A6]
            refine wpAnyX_one (i := 6) (by kernel_rfl) rfl (fun K hK => ?_)
            go_simp
            refine (HW.out _).mono ?_
            rintro e wg ⟨rfl, hg⟩
            replace HB := Keep.mk (HB.out.grown hg.g)
            refine hK.out _ _ HB.out (fun hHeld => ?_)
            clear hK K hg
            refine wpAnyX_done (by kernel_rfl) ?_ _
            go_wp2_with fail
            go_roundw
            case rel => exact ⟨i + 1, by omega, rfl, ⟨by rw [HE.out]; exact HB.out⟩⟩
            case measure => simp [intOf]; omega
          case true =>
            have HE : Keep (NI LL x y r j T (i + 1) = NI LL x y r j T i ++ [t]) := ⟨NI_yes HTT.out HBB.out⟩
            go_wp2_with fail
            clear l1
            refine region_X (S := fun w' => Sep w0 w' (rowV 119 1 u7 (NI LL x y r j T i).length ((NI LL x y r j T i).map (fun t => pt t.b)) :: rowV 101 1 (sl g1 n c) n (LL.map (·.1)) :: boxA ab [iv x, iv y] 24 :: gOpen gb sd va mi mc A C l)) [] (by kernel_rfl) (HB.out.grown (gr_drew _ _)) (fun hHeld => ?_)
            replace HB := Keep.mk hHeld
            obtain ⟨W0, hW0⟩ : ∃ W_, wr.drew = W_ := ⟨_, rfl⟩
            rw [hW0] at HB hHeld ⊢
            clear hW0
            refine wpAnyX_take (i := 0) (oi := _) (v := .agg #[iv x, iv y]) rfl (by kernel_rfl) (by kernel_rfl) (by kernel_rfl) (by kernel_rfl) (by kernel_rfl) (fun _ _ _ h => h) (Or.inl ⟨by rfl, ?_⟩) (by assumption) ?_
            · (intro w hSw; have q0 := (hSw.boxGet k2m).cellv 0 _ rfl; have q1 := (hSw.boxGet k2m).cellv 1 _ rfl; go_simp; first | done | rfl | (simp; done) | trace_state)
            simp only [Act.put, A1, A3, A4, A5, A6]
            refine wpAnyX_take (i := 1) (oi := _) (v := ?_) rfl (by kernel_rfl) (by kernel_rfl) (by kernel_rfl) (by kernel_rfl) (by kernel_rfl) (fun _ _ _ h => h) (Or.inl ⟨by rfl, ?_⟩) (by assumption) ?_
            rotate_left
            · (intro w hSw; go_simp; first | done | (with_reducible rfl))
            simp only [Act.put, A1, A2, A3, A4, A5, A6]
            refine wpAnyX_take (i := 2) (oi := _) (v := ?_) rfl (by kernel_rfl) (by kernel_rfl) (by kernel_rfl) (by kernel_rfl) (by kernel_rfl) (fun _ _ _ h => h) (Or.inl ⟨by rfl, ?_⟩) (by assumption) ?_
            rotate_left
            · (intro w hSw; go_simp; first | done | (with_reducible rfl))
            simp only [Act.put, A1, A2, A3, A4, A5, A6]
            refine wpAnyX_take (i := 3) (oi := _) (v := ?_) rfl (by kernel_rfl) (by kernel_rfl) (by kernel_rfl) (by kernel_rfl) (by kernel_rfl) (fun _ _ _ h => h) (Or.inl ⟨by rfl, ?_⟩) (by assumption) ?_
            rotate_left
            · (intro w hSw; go_simp; first | done | (with_reducible rfl))
            simp only [Act.put, A1, A2, A3, A4, A5, A6]
            refine wpAnyX_take (i := 4) (oi := _) (v := .agg #[iv t.x, iv t.y]) rfl (by kernel_rfl) (by kernel_rfl) (by kernel_rfl) (by kernel_rfl) (by kernel_rfl) (fun _ _ _ h => h) (Or.inl ⟨by rfl, ?_⟩) (by assumption) ?_
            · (intro w hSw; have q0 := (hSw.boxGet HT.out).cellv 1 _ rfl; have q1 := (hSw.boxGet HT.out).cellv 2 _ rfl; go_simp; first | done | rfl | (simp; done) | trace_state)
            simp only [Act.put, A1, A2, A3, A4, A5, A6]
            refine wpAnyX_take (i := 5) (oi := _) (v := ?_) rfl (by kernel_rfl) (by kernel_rfl) (by kernel_rfl) (by kernel_rfl) (by kernel_rfl) (fun _ _ _ h => h) (Or.inl ⟨by rfl, ?_⟩) (by assumption) ?_
            rotate_left
            · (intro w hSw; go_simp; first | done | (with_reducible rfl))
            simp only [Act.put, A1, A2, A3, A4, A5, A6]
            refine wpAnyX_one (i := 6) (by kernel_rfl) rfl (fun K hK => ?_)
            go_simp
            refine (HW.out _).mono ?_
            rintro e wg ⟨rfl, hg⟩
            replace HB := Keep.mk (HB.out.grown hg.g)
            refine hK.out _ _ HB.out (fun hHeld => ?_)
            clear hK K hg
            refine wpAnyX_done (by kernel_rfl) ?_ _
            obtain ⟨i0, i1, i2, i3, i4⟩ := info57b
            obtain ⟨g9, c9, W9, ap, S9⟩ := Sep.app (t := 101) (bytes := 8) Tryz.underlying101 i1 i4 i2 i3 rfl (by omega) HB.out [pt t.b] rfl (by intro u hu; simp at hu; subst hu; rfl) HNL.out (by omega)
            have AP := Keep.mk ap
            have HS9 : Keep (Sep w0 W9 (rowV 119 1 (sl g9 ((NI LL x y r j T i).length + 1) c9) (NI LL x y r j T (i + 1)).length ((NI LL x y r j T (i + 1)).map (fun t => pt t.b)) :: rowV 101 1 (sl g1 n c) n (LL.map (·.1)) :: boxA ab [iv x, iv y] 24 :: gOpen gb sd va mi mc A C l)) := ⟨by
              rw [HE.out, List.map_append, List.map_cons, List.map_nil, List.length_append, List.length_singleton]
              exact S9⟩
            clear ap S9 i1 i2 i3 i4 HE
            obtain ⟨wb, hwb⟩ : ∃ b, wg.heap.size = b := ⟨_, rfl⟩
            rw [hwb] at AP
            generalize (NI LL x y r j T i).length + 1 = n1 at AP HS9 ⊢
            clear HB HNL
            go_wp2_with (first
              | (at_builtin; refine wpList_append_run _ rfl (.tmp 34) (.tmp 36) 101 rfl _ _ rfl rfl AP.out ?_))
            go_roundw
            case rel => exact ⟨i + 1, by omega, rfl, HS9⟩
            case measure => simp [intOf]; omega
        · have hji : IntKind.i64.wrap ((j : Int) + 1) = ((j + 1 : Nat) : Int) := by rw [IntKind.wrap_i64]; omega
          have HE : Keep (NN LL x y r (j + 1) = NI LL x y r j T i) := ⟨by
            rw [NN_next HP.out]
            show NI LL x y r j T T.length = _
            rw [HM.out, show m = i by omega]⟩
          go_wp2_with fail
          go_roundw
          case rel => exact ⟨j + 1, by omega, rfl, ⟨by rw [HE.out]; exact hS.out⟩⟩
          case measure => simp [intOf]; omega
    · have HE : Keep (WiR w0 wr A x y r (gOpen gb sd va mi mc A C l) u7) := ⟨⟨NN LL x y r j, by
        have e : NN LL x y r j = nrT (LL.flatMap (·.2)) x y r := by
          unfold NN
          rw [List.take_of_length_le (by rw [HLN.out]; omega)]
        rw [e]
        exact HAB.out.perm HG.out.j.bd, by
        have q := hS.out
        exact (q.perm ((List.Perm.swap _ _ _).trans ((List.Perm.swap _ _ _).cons _))).tail.tail⟩⟩
      clear hS
      go_wp2_with fail
      go_ret
      exact ⟨_, rfl, HE.out⟩
end Go.Proofs.YtgedlabmndlooaaGreat
