/- TableScript: a step's Keys. -/
import Derived.Test.YtkaakbldkicnaaaT1
namespace Go.Proofs.Ytkaakbldkicnaaa
open Go Go.RowKit Go.Maps

theorem under56 : Try.prog.underlying 56 = some (.slice 22) := by kernel_rfl
theorem info22 : ∃ i, Try.prog.info? 22 = some i ∧ i.size = 1 ∧ i.bytes = 24 ∧ i.zero = some (.slice none 0 0) := by
  have h : (Try.prog.info? 22).map (fun i => (i.size, i.bytes, i.zero)) = some (1, 24, some (.slice none 0 0)) := by kernel_rfl
  cases hq : Try.prog.info? 22 with
  | none => simp [hq] at h
  | some i =>
    simp only [hq, Option.map_some, Option.some.injEq, Prod.mk.injEq] at h
    exact ⟨i, rfl, h.1, h.2.1, h.2.2⟩
/-- a row of lists grows by one -/
theorem Sep.lists {w0 W : World} {l : List As} {v : Value} {n : Nat} {xs : List Value} (va : Option Addr) (vl vc : Nat) (h : Sep w0 W (rowV 22 1 v n xs :: l)) (hn : n ≤ 4194304) :
    ∃ g c W', (Builtin.append_ #[56, 56] 56 #[v, .slice (some ⟨W.heap.size, 0, none⟩) 1 1]).run Try.prog (W.alloc (.cells #[.slice va vl vc] 22)) = .ok (.slice (some ⟨g, 0, none⟩) (n + 1) c) W' ∧ Sep w0 W' (rowV 22 1 (.slice (some ⟨g, 0, none⟩) (n + 1) c) (n + 1) (xs ++ [.slice va vl vc]) :: l) := by
  obtain ⟨i, i1, i2, i3, i4⟩ := info22
  exact Sep.app under56 i1 i4 i2 i3 rfl (by decide) h [.slice va vl vc] rfl (fun u hu => by rw [List.mem_singleton] at hu; subst hu; rfl) (by omega) (by decide)
theorem Sep.openBook {w0 W : World} {a1 a2 a3 a4 a5 a6 : As} {tv wv : Value} {n : Nat} {R : List As} (h : Sep w0 W (a1 :: a2 :: a3 :: a4 :: a5 :: a6 :: bookA tv wv n :: R)) :
    ∃ B : List Bk, (B.length = n ∧ ∀ q ∈ B, q.2.2.length ≤ 4096) ∧ Sep w0 W (rowV 22 1 tv n (B.map fun q => q.1) :: rowV 22 1 wv n (B.map fun q => q.2.1) :: a1 :: a2 :: a3 :: a4 :: a5 :: a6 :: (bks B ++ R)) := by
  obtain ⟨B, S⟩ := (fr1 [_, _, _, _, _, _] h).opn
  have hB : B.length = n ∧ ∀ q ∈ B, q.2.2.length ≤ 4096 := S.fact (List.mem_append_left _ (List.mem_cons_self ..))
  refine ⟨B, hB, S.tail.perm (List.Perm.cons _ (List.Perm.cons _ ?_))⟩
  have e : bks B ++ ([a1, a2, a3, a4, a5, a6] ++ R) = bks B ++ [a1, a2, a3, a4, a5, a6] ++ R := (List.append_assoc ..).symm
  have e2 : [a1, a2, a3, a4, a5, a6] ++ (bks B ++ R) = [a1, a2, a3, a4, a5, a6] ++ bks B ++ R := (List.append_assoc ..).symm
  show List.Perm (bks B ++ ([a1, a2, a3, a4, a5, a6] ++ R)) ([a1, a2, a3, a4, a5, a6] ++ (bks B ++ R))
  rw [e, e2]
  exact List.perm_append_comm.append_right R
theorem pcb_set4 (b : Bool) (t t' d d' : Nat) (tv wv v : Value) : (pcb b t t' d d' tv wv).set 4 v = pcb b t t' d d' v wv := by cases b <;> rfl
theorem pcb_set5 (b : Bool) (t t' d d' : Nat) (tv wv v : Value) : (pcb b t t' d d' tv wv).set 5 v = pcb b t t' d d' tv v := by cases b <;> rfl
/-- all in its place again -/
theorem keys_back {w0 W : World} {b : Bool} {pb t t' d d' s s' ob : Nat} {L L' : KV} {cs : List Value} {u1 : TypeId} {tv wv v u : Value} {n : Nat} {R : List As} {B : List Bk} (hB : B.length = n ∧ ∀ q ∈ B, q.2.2.length ≤ 4096) (hx : (Tb.keys L).length ≤ 4096)
    (h : Sep w0 W (boxA pb (pcb b t t' d d' tv wv) 58 :: rowV 22 1 wv (n + 1) (B.map (fun q => q.2.1) ++ [u]) :: rowA u (Tb.keys L) :: refA d s L :: rowV 22 1 tv (n + 1) (B.map (fun q => q.1) ++ [v]) :: rowA v (Tb.keys L) :: boxA ob cs u1 :: tabA t s L :: tabA t' s' L' :: refA d' s' L' :: (bks B ++ R))) :
    Sep w0 W (stB b pb t t' d d' s s' L L' tv wv (n + 1) R) := by
  have h1 := (fr1 [_, _, _, _, _, _] h).tail
  have g0 := fr1 [_, _, _, _, _, _, _, _] h1
  have g1 := fr1 [_, _, _, _, _, _, _, _] g0
  have g2 := fr1 [_, _, _, _, _] g1
  have g3 := fr1 [_, _, _, _, _, _, _, _] g2
  have g4 := fr1 [_, _, _, _] g3
  have g5 := fr1 [_, _, _, _, _, _] g4
  have g6 := fr1 [_, _, _, _, _, _, _, _] g5
  have g7 := fr1 [_, _, _, _, _, _, _] g6
  have g8 := fr1 [_, _, _, _, _, _, _, _] g7
  have e : bks B ++ ([boxA pb (pcb b t t' d d' tv wv) 58, tabA t s L, refA d s L, tabA t' s' L', refA d' s' L'] ++ R) = bks B ++ [boxA pb (pcb b t t' d d' tv wv) 58, tabA t s L, refA d s L, tabA t' s' L', refA d' s' L'] ++ R := (List.append_assoc ..).symm
  have e2 : [boxA pb (pcb b t t' d d' tv wv) 58, tabA t s L, refA d s L, tabA t' s' L', refA d' s' L'] ++ (bks B ++ R) = [boxA pb (pcb b t t' d d' tv wv) 58, tabA t s L, refA d s L, tabA t' s' L', refA d' s' L'] ++ bks B ++ R := (List.append_assoc ..).symm
  have hp : List.Perm ([boxA pb (pcb b t t' d d' tv wv) 58, tabA t s L, refA d s L, tabA t' s' L', refA d' s' L'] ++ (bks B ++ R)) (bks B ++ ([boxA pb (pcb b t t' d d' tv wv) 58, tabA t s L, refA d s L, tabA t' s' L', refA d' s' L'] ++ R)) := by
    rw [e, e2]
    exact List.perm_append_comm.append_right R
  have h2 := Sep.addBook hB hx (g8.perm (List.Perm.cons _ (List.Perm.cons _ (List.Perm.cons _ (List.Perm.cons _ hp)))))
  exact bk1 [_, _, _, _, _] h2
set_option maxRecDepth 100000 in
set_option maxHeartbeats 16000000 in
theorem step_keys (w0 W : World) (pb t t' d d' s s' : Nat) (b : Bool) (L L' : KV) (tv wv : Value) (n c : Nat) (R : List As) (a x dp : Int) (key : ByteArray) (a0 : Option Addr) (ni ci : Nat)
    (h : Sep w0 W (stB b pb t t' d d' s s' L L' tv wv n R)) (hpar : Par b a) (hn : n ≤ 4194304) (hc : 1 ≤ c) :
    Calls Try.prog 31 #[pt pb, opv 7 a key x a0 ni ci, iv dp] W (StP w0 b pb t t' d d' s s' n c R) := by
  have S1 := h.newBox #[iv 7, iv a, .string key, iv x, .slice a0 ni ci] 62
  have ok := h.tab k1m
  obtain ⟨ob, hob⟩ : ∃ ob, W.heap.size = ob := ⟨_, rfl⟩
  obtain ⟨W1, hW1⟩ : ∃ W1, W.alloc (.cells #[iv 7, iv a, .string key, iv x, .slice a0 ni ci] 62) = W1 := ⟨_, rfl⟩
  rw [hob, hW1] at S1
  change Sep w0 W1 (boxA ob (opL 7 a key x a0 ni ci) 62 :: stB b pb t t' d d' s s' L L' tv wv n R) at S1
  obtain ⟨o0, o1, o2, o3, o4⟩ := S1.opc k0m
  have pl := S1.plc k1m
  obtain ⟨B, hB, S1⟩ := S1.openBook
  obtain ⟨tva, tvc, htv⟩ := own_slice (S1.rowGet k0m)
  obtain ⟨wva, wvc, hwv⟩ := own_slice (S1.rowGet k1m)
  have HC : Keep (1 ≤ c ∧ (B.length = n ∧ ∀ q ∈ B, q.2.2.length ≤ 4096) ∧ (Tb.keys L).length ≤ 4096) := ⟨hc, hB, by rw [List.length_map]; exact ok.four⟩
  rcases hpar with ⟨hb, hp⟩ | ⟨hb, hp⟩
  all_goals
    obtain ⟨pt0, pd0, _, _, _, _⟩ := pl
    rw [hb] at pt0 pd0
    simp only [bn, if_true, if_false, Bool.false_eq_true, Nat.add_zero] at pt0 pd0
    clear hb
    have HOK := Keep.mk ok
    have HS1 := Keep.mk S1
    clear h S1 ok hc hB
    subst htv
    subst hwv
    go_enter Try.func31, Try.ntmps31
    go_wp2_with fail
    have SD := HS1.out.grown (gr_drew W1 none)
    refine wp_region_held_drew (S := fun _ => True) (by kernel_rfl) trivial (fun hHeld => ?_)
    generalize W1.drew = w2 at SD ⊢
    clear HS1 o0 o1 o2 o3 o4 pt0 pd0
    have y2 := (SD.plc k3m).tv
    have HSD := Keep.mk SD
    clear SD
    refine wpAnyH_take (i := 0) (oi := _) (v := ?_) rfl (by kernel_rfl) (by kernel_rfl) (by kernel_rfl) (fun _ _ _ h => h) (Or.inl ⟨by rfl, ?_⟩) (by assumption) ?_
    rotate_left
    · (intro w hSw; go_simp; first | done | (with_reducible rfl))
    simp only [Act.put, List.getElem_toArray, List.getElem_cons_zero, List.setIfInBounds_toArray, List.set_cons_zero, List.set_cons_succ]
    refine wpAnyH_take (i := 1) (oi := _) (v := ?_) rfl (by kernel_rfl) (by kernel_rfl) (by kernel_rfl) (fun _ _ _ h => h) (Or.inl ⟨by rfl, ?_⟩) (by assumption) ?_
    rotate_left
    · (intro w hSw; go_simp; first | done | (with_reducible rfl))
    simp only [Act.put, List.getElem_toArray, List.getElem_cons_succ, List.getElem_cons_zero, List.setIfInBounds_toArray, List.set_cons_zero, List.set_cons_succ]
    refine wpAnyH_take (i := 2) (oi := _) (v := ?_) rfl (by kernel_rfl) (by kernel_rfl) (by kernel_rfl) (fun _ _ _ h => h) (Or.inl ⟨by rfl, ?_⟩) (by assumption) ?_
    rotate_left
    · (intro w hSw; go_simp; first | done | (with_reducible rfl))
    simp only [Act.put, List.getElem_toArray, List.getElem_cons_succ, List.getElem_cons_zero, List.setIfInBounds_toArray, List.set_cons_zero, List.set_cons_succ]
    refine wpAnyH_take (i := 3) (oi := _) (v := ?_) rfl (by kernel_rfl) (by kernel_rfl) (by kernel_rfl) (fun _ _ _ h => h) (Or.inl ⟨by rfl, ?_⟩) (by assumption) ?_
    rotate_left
    · (intro w hSw; go_simp; first | done | (with_reducible rfl))
    simp only [Act.put, List.getElem_toArray, List.getElem_cons_succ, List.getElem_cons_zero, List.setIfInBounds_toArray, List.set_cons_zero, List.set_cons_succ]
    refine wpAnyH_take (i := 5) (oi := _) (v := ?_) rfl (by kernel_rfl) (by kernel_rfl) (by kernel_rfl) (fun _ _ _ h => h) (Or.inl ⟨by rfl, ?_⟩) (by assumption) ?_
    rotate_left
    · (intro w hSw; go_simp; first | done | (with_reducible rfl))
    simp only [Act.put, List.getElem_toArray, List.getElem_cons_succ, List.getElem_cons_zero, List.setIfInBounds_toArray, List.set_cons_zero, List.set_cons_succ]
    refine wpAnyH_ready (rs := [4, 6]) (by kernel_rfl) (by simp) ?_
    refine AllReadyH.cons rfl (fun K hK => ?_) ?_
    · go_simp
      go_wp2_with fail
      refine hK.out _ _ trivial (fun _ => ?_)
      clear hK K
      refine wpAnyH_ready (rs := [6]) (by kernel_rfl) (by simp) ?_
      refine AllReadyH.cons rfl (fun K hK => ?_) AllReadyH.nil
      have hG := keys_s HSD.out k4m
      go_simp
      go_wp2_with fail
      refine hG.mono ?_
      rintro r w3 ⟨v, rfl, S2⟩
      clear hG HSD y2
      obtain ⟨va, vl, vc, hv⟩ : ∃ a l c, v = .slice a l c := by obtain ⟨a, c, e⟩ := (S2.row k0m).slice; exact ⟨a, _, c, e⟩
      subst hv
      have y3 := (S2.plc k4m).tv
      have y3a := ((S2.grown (World.grownBy_alloc w3 (.cells #[.slice va vl vc] 22) none)).plc k4m).tv
      obtain ⟨g5, c5, w5, ap, S5⟩ := S2.swap.lists va vl vc hn
      have z0 := (S5.plc k4m).tv
      have z1 := (S5.plc k4m).f4
      have AP := Keep.mk ap
      have HS5 := Keep.mk S5
      clear S2 ap S5
      refine hK.out _ _ trivial (fun _ => ?_)
      clear hK K
      refine wpAnyH_ready (rs := [7]) (by kernel_rfl) (by simp) ?_
      refine AllReadyH.cons rfl (fun K hK => ?_) AllReadyH.nil
      go_simp
      go_wp2_with fail
      refine hK.out _ _ trivial (fun _ => ?_)
      clear hK K
      refine wpAnyH_ready (rs := [8]) (by kernel_rfl) (by simp) ?_
      refine AllReadyH.cons rfl (fun K hK => ?_) AllReadyH.nil
      rw [if_pos (by rfl)]
      refine wp_append_run _ _ 56 rfl _ _ rfl rfl AP.out ?_
      clear AP y3 y3a
      refine hK.out _ _ trivial (fun _ => ?_)
      clear hK K
      refine wpAnyH_take (i := 9) (oi := _) (v := ?_) rfl (by kernel_rfl) (by kernel_rfl) (by kernel_rfl) (fun _ _ _ h => h) (Or.inl ⟨by rfl, ?_⟩) (by assumption) ?_
      rotate_left
      · (intro w hSw; go_simp; first | done | (with_reducible rfl))
      simp only [Act.put, List.getElem_toArray, List.getElem_cons_succ, List.getElem_cons_zero, List.setIfInBounds_toArray, List.set_cons_zero, List.set_cons_succ]
      refine wpAnyH_take (i := 10) (oi := _) (v := ?_) rfl (by kernel_rfl) (by kernel_rfl) (by kernel_rfl) (fun _ _ _ h => h) (Or.inl ⟨by rfl, ?_⟩) (by assumption) ?_
      rotate_left
      · (intro w hSw; go_simp; first | done | (with_reducible rfl))
      simp only [Act.put, List.getElem_toArray, List.getElem_cons_succ, List.getElem_cons_zero, List.setIfInBounds_toArray, List.set_cons_zero, List.set_cons_succ]
      refine wpAnyH_ready (rs := [11]) (by kernel_rfl) (by simp) ?_
      refine AllReadyH.cons rfl (fun K hK => ?_) AllReadyH.nil
      go_simp
      go_wp2_with fail
      refine hK.out _ _ trivial (fun _ => ?_)
      clear hK K
      refine wpAnyH_done (by kernel_rfl) ?_ _
      have S6 := (fr1 [_, _, _, _] HS5.out).boxPut 4 (.slice (some ⟨g5, 0, none⟩) (n + 1) c5)
      rw [pcb_set4] at S6
      generalize hw6 : World.setCell w5 _ _ = w6 at S6 ⊢
      clear hw6 HS5 z0 z1
      have HS6 := Keep.mk S6
      clear S6
      go_wp2_with fail
      have SE := HS6.out.grown (gr_drew w6 none)
      refine wp_region_held_drew (S := fun _ => True) (by kernel_rfl) trivial (fun hHeld => ?_)
      generalize w6.drew = w7 at SE ⊢
      clear HS6
      have y2 := (SE.plc k0m).wv
      have HSE := Keep.mk SE
      clear SE
      refine wpAnyH_take (i := 0) (oi := _) (v := ?_) rfl (by kernel_rfl) (by kernel_rfl) (by kernel_rfl) (fun _ _ _ h => h) (Or.inl ⟨by rfl, ?_⟩) (by assumption) ?_
      rotate_left
      · (intro w hSw; go_simp; first | done | (with_reducible rfl))
      simp only [Act.put, List.getElem_toArray, List.getElem_cons_zero, List.setIfInBounds_toArray, List.set_cons_zero, List.set_cons_succ]
      refine wpAnyH_take (i := 1) (oi := _) (v := ?_) rfl (by kernel_rfl) (by kernel_rfl) (by kernel_rfl) (fun _ _ _ h => h) (Or.inl ⟨by rfl, ?_⟩) (by assumption) ?_
      rotate_left
      · (intro w hSw; go_simp; first | done | (with_reducible rfl))
      simp only [Act.put, List.getElem_toArray, List.getElem_cons_succ, List.getElem_cons_zero, List.setIfInBounds_toArray, List.set_cons_zero, List.set_cons_succ]
      refine wpAnyH_take (i := 2) (oi := _) (v := ?_) rfl (by kernel_rfl) (by kernel_rfl) (by kernel_rfl) (fun _ _ _ h => h) (Or.inl ⟨by rfl, ?_⟩) (by assumption) ?_
      rotate_left
      · (intro w hSw; go_simp; first | done | (with_reducible rfl))
      simp only [Act.put, List.getElem_toArray, List.getElem_cons_succ, List.getElem_cons_zero, List.setIfInBounds_toArray, List.set_cons_zero, List.set_cons_succ]
      refine wpAnyH_take (i := 3) (oi := _) (v := ?_) rfl (by kernel_rfl) (by kernel_rfl) (by kernel_rfl) (fun _ _ _ h => h) (Or.inl ⟨by rfl, ?_⟩) (by assumption) ?_
      rotate_left
      · (intro w hSw; go_simp; first | done | (with_reducible rfl))
      simp only [Act.put, List.getElem_toArray, List.getElem_cons_succ, List.getElem_cons_zero, List.setIfInBounds_toArray, List.set_cons_zero, List.set_cons_succ]
      refine wpAnyH_take (i := 5) (oi := _) (v := ?_) rfl (by kernel_rfl) (by kernel_rfl) (by kernel_rfl) (fun _ _ _ h => h) (Or.inl ⟨by rfl, ?_⟩) (by assumption) ?_
      rotate_left
      · (intro w hSw; go_simp; first | done | (with_reducible rfl))
      simp only [Act.put, List.getElem_toArray, List.getElem_cons_succ, List.getElem_cons_zero, List.setIfInBounds_toArray, List.set_cons_zero, List.set_cons_succ]
      refine wpAnyH_ready (rs := [4, 6]) (by kernel_rfl) (by simp) ?_
      refine AllReadyH.cons rfl (fun K hK => ?_) ?_
      · go_simp
        go_wp2_with fail
        refine hK.out _ _ trivial (fun _ => ?_)
        clear hK K
        refine wpAnyH_ready (rs := [6]) (by kernel_rfl) (by simp) ?_
        refine AllReadyH.cons rfl (fun K hK => ?_) AllReadyH.nil
        have hG := rkeys_s (fr1 [_, _, _, _, _, _] HSE.out) HOK.out.four
        go_simp
        go_wp2_with fail
        refine hG.mono ?_
        rintro r w8 ⟨u, rfl, S7⟩
        clear hG HSE y2
        obtain ⟨ua, ul, uc, hv⟩ : ∃ a l c, u = .slice a l c := by obtain ⟨a, c, e⟩ := (S7.row k0m).slice; exact ⟨a, _, c, e⟩
        subst hv
        have S8 := fr1 [_, _, _, _, _] S7
        have y3 := (S7.plc k2m).wv
        have y3a := ((S7.grown (World.grownBy_alloc w8 (.cells #[.slice ua ul uc] 22) none)).plc k2m).wv
        obtain ⟨g9, c9, w9, ap, S9⟩ := S8.lists ua ul uc hn
        have z0 := (S9.plc k3m).wv
        have z1 := (S9.plc k3m).f5
        have AP := Keep.mk ap
        have HS9 := Keep.mk S9
        clear S7 S8 ap S9
        refine hK.out _ _ trivial (fun _ => ?_)
        clear hK K
        refine wpAnyH_ready (rs := [7]) (by kernel_rfl) (by simp) ?_
        refine AllReadyH.cons rfl (fun K hK => ?_) AllReadyH.nil
        go_simp
        go_wp2_with fail
        refine hK.out _ _ trivial (fun _ => ?_)
        clear hK K
        refine wpAnyH_ready (rs := [8]) (by kernel_rfl) (by simp) ?_
        refine AllReadyH.cons rfl (fun K hK => ?_) AllReadyH.nil
        rw [if_pos (by rfl)]
        refine wp_append_run _ _ 56 rfl _ _ rfl rfl AP.out ?_
        clear AP y3 y3a
        refine hK.out _ _ trivial (fun _ => ?_)
        clear hK K
        refine wpAnyH_take (i := 9) (oi := _) (v := ?_) rfl (by kernel_rfl) (by kernel_rfl) (by kernel_rfl) (fun _ _ _ h => h) (Or.inl ⟨by rfl, ?_⟩) (by assumption) ?_
        rotate_left
        · (intro w hSw; go_simp; first | done | (with_reducible rfl))
        simp only [Act.put, List.getElem_toArray, List.getElem_cons_succ, List.getElem_cons_zero, List.setIfInBounds_toArray, List.set_cons_zero, List.set_cons_succ]
        refine wpAnyH_take (i := 10) (oi := _) (v := ?_) rfl (by kernel_rfl) (by kernel_rfl) (by kernel_rfl) (fun _ _ _ h => h) (Or.inl ⟨by rfl, ?_⟩) (by assumption) ?_
        rotate_left
        · (intro w hSw; go_simp; first | done | (with_reducible rfl))
        simp only [Act.put, List.getElem_toArray, List.getElem_cons_succ, List.getElem_cons_zero, List.setIfInBounds_toArray, List.set_cons_zero, List.set_cons_succ]
        refine wpAnyH_ready (rs := [11]) (by kernel_rfl) (by simp) ?_
        refine AllReadyH.cons rfl (fun K hK => ?_) AllReadyH.nil
        go_simp
        go_wp2_with fail
        refine hK.out _ _ trivial (fun _ => ?_)
        clear hK K
        refine wpAnyH_done (by kernel_rfl) ?_ _
        have S10 := (fr1 [_, _, _] HS9.out).boxPut 5 (.slice (some ⟨g9, 0, none⟩) (n + 1) c9)
        rw [pcb_set5] at S10
        have HF := Keep.mk (keys_back HC.out.2.1 HC.out.2.2 S10)
        clear S10 HS9 z0 z1
        go_wp2_with fail
        go_ret
        exact ⟨rfl, _, _, _, _, n + 1, by have := HC.out.1; omega, HF.out⟩
      refine AllReadyH.cons rfl (fun K hK => ?_) AllReadyH.nil
      have hG := rkeys_s (fr1 [_, _, _, _, _, _] HSE.out) HOK.out.four
      go_simp
      go_wp2_with fail
      refine hG.mono ?_
      rintro r w8 ⟨u, rfl, S7⟩
      clear hG HSE y2
      obtain ⟨ua, ul, uc, hv⟩ : ∃ a l c, u = .slice a l c := by obtain ⟨a, c, e⟩ := (S7.row k0m).slice; exact ⟨a, _, c, e⟩
      subst hv
      have S8 := fr1 [_, _, _, _, _] S7
      have y3 := (S7.plc k2m).wv
      have y3a := ((S7.grown (World.grownBy_alloc w8 (.cells #[.slice ua ul uc] 22) none)).plc k2m).wv
      obtain ⟨g9, c9, w9, ap, S9⟩ := S8.lists ua ul uc hn
      have z0 := (S9.plc k3m).wv
      have z1 := (S9.plc k3m).f5
      have AP := Keep.mk ap
      have HS9 := Keep.mk S9
      clear S7 S8 ap S9
      refine hK.out _ _ trivial (fun _ => ?_)
      clear hK K
      refine wpAnyH_ready (rs := [4, 7]) (by kernel_rfl) (by simp) ?_
      refine AllReadyH.cons rfl (fun K hK => ?_) ?_
      · go_simp
        go_wp2_with fail
        refine hK.out _ _ trivial (fun _ => ?_)
        clear hK K
        refine wpAnyH_ready (rs := [7]) (by kernel_rfl) (by simp) ?_
        refine AllReadyH.cons rfl (fun K hK => ?_) AllReadyH.nil
        go_simp
        go_wp2_with fail
        refine hK.out _ _ trivial (fun _ => ?_)
        clear hK K
        refine wpAnyH_ready (rs := [8]) (by kernel_rfl) (by simp) ?_
        refine AllReadyH.cons rfl (fun K hK => ?_) AllReadyH.nil
        rw [if_pos (by rfl)]
        refine wp_append_run _ _ 56 rfl _ _ rfl rfl AP.out ?_
        clear AP y3 y3a
        refine hK.out _ _ trivial (fun _ => ?_)
        clear hK K
        refine wpAnyH_take (i := 9) (oi := _) (v := ?_) rfl (by kernel_rfl) (by kernel_rfl) (by kernel_rfl) (fun _ _ _ h => h) (Or.inl ⟨by rfl, ?_⟩) (by assumption) ?_
        rotate_left
        · (intro w hSw; go_simp; first | done | (with_reducible rfl))
        simp only [Act.put, List.getElem_toArray, List.getElem_cons_succ, List.getElem_cons_zero, List.setIfInBounds_toArray, List.set_cons_zero, List.set_cons_succ]
        refine wpAnyH_take (i := 10) (oi := _) (v := ?_) rfl (by kernel_rfl) (by kernel_rfl) (by kernel_rfl) (fun _ _ _ h => h) (Or.inl ⟨by rfl, ?_⟩) (by assumption) ?_
        rotate_left
        · (intro w hSw; go_simp; first | done | (with_reducible rfl))
        simp only [Act.put, List.getElem_toArray, List.getElem_cons_succ, List.getElem_cons_zero, List.setIfInBounds_toArray, List.set_cons_zero, List.set_cons_succ]
        refine wpAnyH_ready (rs := [11]) (by kernel_rfl) (by simp) ?_
        refine AllReadyH.cons rfl (fun K hK => ?_) AllReadyH.nil
        go_simp
        go_wp2_with fail
        refine hK.out _ _ trivial (fun _ => ?_)
        clear hK K
        refine wpAnyH_done (by kernel_rfl) ?_ _
        have S10 := (fr1 [_, _, _] HS9.out).boxPut 5 (.slice (some ⟨g9, 0, none⟩) (n + 1) c9)
        rw [pcb_set5] at S10
        have HF := Keep.mk (keys_back HC.out.2.1 HC.out.2.2 S10)
        clear S10 HS9 z0 z1
        go_wp2_with fail
        go_ret
        exact ⟨rfl, _, _, _, _, n + 1, by have := HC.out.1; omega, HF.out⟩
      refine AllReadyH.cons rfl (fun K hK => ?_) AllReadyH.nil
      go_simp
      go_wp2_with fail
      refine hK.out _ _ trivial (fun _ => ?_)
      clear hK K
      refine wpAnyH_ready (rs := [4]) (by kernel_rfl) (by simp) ?_
      refine AllReadyH.cons rfl (fun K hK => ?_) AllReadyH.nil
      go_simp
      go_wp2_with fail
      refine hK.out _ _ trivial (fun _ => ?_)
      clear hK K
      refine wpAnyH_ready (rs := [8]) (by kernel_rfl) (by simp) ?_
      refine AllReadyH.cons rfl (fun K hK => ?_) AllReadyH.nil
      rw [if_pos (by rfl)]
      refine wp_append_run _ _ 56 rfl _ _ rfl rfl AP.out ?_
      clear AP y3 y3a
      refine hK.out _ _ trivial (fun _ => ?_)
      clear hK K
      refine wpAnyH_take (i := 9) (oi := _) (v := ?_) rfl (by kernel_rfl) (by kernel_rfl) (by kernel_rfl) (fun _ _ _ h => h) (Or.inl ⟨by rfl, ?_⟩) (by assumption) ?_
      rotate_left
      · (intro w hSw; go_simp; first | done | (with_reducible rfl))
      simp only [Act.put, List.getElem_toArray, List.getElem_cons_succ, List.getElem_cons_zero, List.setIfInBounds_toArray, List.set_cons_zero, List.set_cons_succ]
      refine wpAnyH_take (i := 10) (oi := _) (v := ?_) rfl (by kernel_rfl) (by kernel_rfl) (by kernel_rfl) (fun _ _ _ h => h) (Or.inl ⟨by rfl, ?_⟩) (by assumption) ?_
      rotate_left
      · (intro w hSw; go_simp; first | done | (with_reducible rfl))
      simp only [Act.put, List.getElem_toArray, List.getElem_cons_succ, List.getElem_cons_zero, List.setIfInBounds_toArray, List.set_cons_zero, List.set_cons_succ]
      refine wpAnyH_ready (rs := [11]) (by kernel_rfl) (by simp) ?_
      refine AllReadyH.cons rfl (fun K hK => ?_) AllReadyH.nil
      go_simp
      go_wp2_with fail
      refine hK.out _ _ trivial (fun _ => ?_)
      clear hK K
      refine wpAnyH_done (by kernel_rfl) ?_ _
      have S10 := (fr1 [_, _, _] HS9.out).boxPut 5 (.slice (some ⟨g9, 0, none⟩) (n + 1) c9)
      rw [pcb_set5] at S10
      have HF := Keep.mk (keys_back HC.out.2.1 HC.out.2.2 S10)
      clear S10 HS9 z0 z1
      go_wp2_with fail
      go_ret
      exact ⟨rfl, _, _, _, _, n + 1, by have := HC.out.1; omega, HF.out⟩
    refine AllReadyH.cons rfl (fun K hK => ?_) AllReadyH.nil
    have hG := keys_s HSD.out k4m
    go_simp
    go_wp2_with fail
    refine hG.mono ?_
    rintro r w3 ⟨v, rfl, S2⟩
    clear hG HSD y2
    obtain ⟨va, vl, vc, hv⟩ : ∃ a l c, v = .slice a l c := by obtain ⟨a, c, e⟩ := (S2.row k0m).slice; exact ⟨a, _, c, e⟩
    subst hv
    have y3 := (S2.plc k4m).tv
    have y3a := ((S2.grown (World.grownBy_alloc w3 (.cells #[.slice va vl vc] 22) none)).plc k4m).tv
    obtain ⟨g5, c5, w5, ap, S5⟩ := S2.swap.lists va vl vc hn
    have z0 := (S5.plc k4m).tv
    have z1 := (S5.plc k4m).f4
    have AP := Keep.mk ap
    have HS5 := Keep.mk S5
    clear S2 ap S5
    refine hK.out _ _ trivial (fun _ => ?_)
    clear hK K
    refine wpAnyH_ready (rs := [4, 7]) (by kernel_rfl) (by simp) ?_
    refine AllReadyH.cons rfl (fun K hK => ?_) ?_
    · go_simp
      go_wp2_with fail
      refine hK.out _ _ trivial (fun _ => ?_)
      clear hK K
      refine wpAnyH_ready (rs := [7]) (by kernel_rfl) (by simp) ?_
      refine AllReadyH.cons rfl (fun K hK => ?_) AllReadyH.nil
      go_simp
      go_wp2_with fail
      refine hK.out _ _ trivial (fun _ => ?_)
      clear hK K
      refine wpAnyH_ready (rs := [8]) (by kernel_rfl) (by simp) ?_
      refine AllReadyH.cons rfl (fun K hK => ?_) AllReadyH.nil
      rw [if_pos (by rfl)]
      refine wp_append_run _ _ 56 rfl _ _ rfl rfl AP.out ?_
      clear AP y3 y3a
      refine hK.out _ _ trivial (fun _ => ?_)
      clear hK K
      refine wpAnyH_take (i := 9) (oi := _) (v := ?_) rfl (by kernel_rfl) (by kernel_rfl) (by kernel_rfl) (fun _ _ _ h => h) (Or.inl ⟨by rfl, ?_⟩) (by assumption) ?_
      rotate_left
      · (intro w hSw; go_simp; first | done | (with_reducible rfl))
      simp only [Act.put, List.getElem_toArray, List.getElem_cons_succ, List.getElem_cons_zero, List.setIfInBounds_toArray, List.set_cons_zero, List.set_cons_succ]
      refine wpAnyH_take (i := 10) (oi := _) (v := ?_) rfl (by kernel_rfl) (by kernel_rfl) (by kernel_rfl) (fun _ _ _ h => h) (Or.inl ⟨by rfl, ?_⟩) (by assumption) ?_
      rotate_left
      · (intro w hSw; go_simp; first | done | (with_reducible rfl))
      simp only [Act.put, List.getElem_toArray, List.getElem_cons_succ, List.getElem_cons_zero, List.setIfInBounds_toArray, List.set_cons_zero, List.set_cons_succ]
      refine wpAnyH_ready (rs := [11]) (by kernel_rfl) (by simp) ?_
      refine AllReadyH.cons rfl (fun K hK => ?_) AllReadyH.nil
      go_simp
      go_wp2_with fail
      refine hK.out _ _ trivial (fun _ => ?_)
      clear hK K
      refine wpAnyH_done (by kernel_rfl) ?_ _
      have S6 := (fr1 [_, _, _, _] HS5.out).boxPut 4 (.slice (some ⟨g5, 0, none⟩) (n + 1) c5)
      rw [pcb_set4] at S6
      generalize hw6 : World.setCell w5 _ _ = w6 at S6 ⊢
      clear hw6 HS5 z0 z1
      have HS6 := Keep.mk S6
      clear S6
      go_wp2_with fail
      have SE := HS6.out.grown (gr_drew w6 none)
      refine wp_region_held_drew (S := fun _ => True) (by kernel_rfl) trivial (fun hHeld => ?_)
      generalize w6.drew = w7 at SE ⊢
      clear HS6
      have y2 := (SE.plc k0m).wv
      have HSE := Keep.mk SE
      clear SE
      refine wpAnyH_take (i := 0) (oi := _) (v := ?_) rfl (by kernel_rfl) (by kernel_rfl) (by kernel_rfl) (fun _ _ _ h => h) (Or.inl ⟨by rfl, ?_⟩) (by assumption) ?_
      rotate_left
      · (intro w hSw; go_simp; first | done | (with_reducible rfl))
      simp only [Act.put, List.getElem_toArray, List.getElem_cons_zero, List.setIfInBounds_toArray, List.set_cons_zero, List.set_cons_succ]
      refine wpAnyH_take (i := 1) (oi := _) (v := ?_) rfl (by kernel_rfl) (by kernel_rfl) (by kernel_rfl) (fun _ _ _ h => h) (Or.inl ⟨by rfl, ?_⟩) (by assumption) ?_
      rotate_left
      · (intro w hSw; go_simp; first | done | (with_reducible rfl))
      simp only [Act.put, List.getElem_toArray, List.getElem_cons_succ, List.getElem_cons_zero, List.setIfInBounds_toArray, List.set_cons_zero, List.set_cons_succ]
      refine wpAnyH_take (i := 2) (oi := _) (v := ?_) rfl (by kernel_rfl) (by kernel_rfl) (by kernel_rfl) (fun _ _ _ h => h) (Or.inl ⟨by rfl, ?_⟩) (by assumption) ?_
      rotate_left
      · (intro w hSw; go_simp; first | done | (with_reducible rfl))
      simp only [Act.put, List.getElem_toArray, List.getElem_cons_succ, List.getElem_cons_zero, List.setIfInBounds_toArray, List.set_cons_zero, List.set_cons_succ]
      refine wpAnyH_take (i := 3) (oi := _) (v := ?_) rfl (by kernel_rfl) (by kernel_rfl) (by kernel_rfl) (fun _ _ _ h => h) (Or.inl ⟨by rfl, ?_⟩) (by assumption) ?_
      rotate_left
      · (intro w hSw; go_simp; first | done | (with_reducible rfl))
      simp only [Act.put, List.getElem_toArray, List.getElem_cons_succ, List.getElem_cons_zero, List.setIfInBounds_toArray, List.set_cons_zero, List.set_cons_succ]
      refine wpAnyH_take (i := 5) (oi := _) (v := ?_) rfl (by kernel_rfl) (by kernel_rfl) (by kernel_rfl) (fun _ _ _ h => h) (Or.inl ⟨by rfl, ?_⟩) (by assumption) ?_
      rotate_left
      · (intro w hSw; go_simp; first | done | (with_reducible rfl))
      simp only [Act.put, List.getElem_toArray, List.getElem_cons_succ, List.getElem_cons_zero, List.setIfInBounds_toArray, List.set_cons_zero, List.set_cons_succ]
      refine wpAnyH_ready (rs := [4, 6]) (by kernel_rfl) (by simp) ?_
      refine AllReadyH.cons rfl (fun K hK => ?_) ?_
      · go_simp
        go_wp2_with fail
        refine hK.out _ _ trivial (fun _ => ?_)
        clear hK K
        refine wpAnyH_ready (rs := [6]) (by kernel_rfl) (by simp) ?_
        refine AllReadyH.cons rfl (fun K hK => ?_) AllReadyH.nil
        have hG := rkeys_s (fr1 [_, _, _, _, _, _] HSE.out) HOK.out.four
        go_simp
        go_wp2_with fail
        refine hG.mono ?_
        rintro r w8 ⟨u, rfl, S7⟩
        clear hG HSE y2
        obtain ⟨ua, ul, uc, hv⟩ : ∃ a l c, u = .slice a l c := by obtain ⟨a, c, e⟩ := (S7.row k0m).slice; exact ⟨a, _, c, e⟩
        subst hv
        have S8 := fr1 [_, _, _, _, _] S7
        have y3 := (S7.plc k2m).wv
        have y3a := ((S7.grown (World.grownBy_alloc w8 (.cells #[.slice ua ul uc] 22) none)).plc k2m).wv
        obtain ⟨g9, c9, w9, ap, S9⟩ := S8.lists ua ul uc hn
        have z0 := (S9.plc k3m).wv
        have z1 := (S9.plc k3m).f5
        have AP := Keep.mk ap
        have HS9 := Keep.mk S9
        clear S7 S8 ap S9
        refine hK.out _ _ trivial (fun _ => ?_)
        clear hK K
        refine wpAnyH_ready (rs := [7]) (by kernel_rfl) (by simp) ?_
        refine AllReadyH.cons rfl (fun K hK => ?_) AllReadyH.nil
        go_simp
        go_wp2_with fail
        refine hK.out _ _ trivial (fun _ => ?_)
        clear hK K
        refine wpAnyH_ready (rs := [8]) (by kernel_rfl) (by simp) ?_
        refine AllReadyH.cons rfl (fun K hK => ?_) AllReadyH.nil
        rw [if_pos (by rfl)]
        refine wp_append_run _ _ 56 rfl _ _ rfl rfl AP.out ?_
        clear AP y3 y3a
        refine hK.out _ _ trivial (fun _ => ?_)
        clear hK K
        refine wpAnyH_take (i := 9) (oi := _) (v := ?_) rfl (by kernel_rfl) (by kernel_rfl) (by kernel_rfl) (fun _ _ _ h => h) (Or.inl ⟨by rfl, ?_⟩) (by assumption) ?_
        rotate_left
        · (intro w hSw; go_simp; first | done | (with_reducible rfl))
        simp only [Act.put, List.getElem_toArray, List.getElem_cons_succ, List.getElem_cons_zero, List.setIfInBounds_toArray, List.set_cons_zero, List.set_cons_succ]
        refine wpAnyH_take (i := 10) (oi := _) (v := ?_) rfl (by kernel_rfl) (by kernel_rfl) (by kernel_rfl) (fun _ _ _ h => h) (Or.inl ⟨by rfl, ?_⟩) (by assumption) ?_
        rotate_left
        · (intro w hSw; go_simp; first | done | (with_reducible rfl))
        simp only [Act.put, List.getElem_toArray, List.getElem_cons_succ, List.getElem_cons_zero, List.setIfInBounds_toArray, List.set_cons_zero, List.set_cons_succ]
        refine wpAnyH_ready (rs := [11]) (by kernel_rfl) (by simp) ?_
        refine AllReadyH.cons rfl (fun K hK => ?_) AllReadyH.nil
        go_simp
        go_wp2_with fail
        refine hK.out _ _ trivial (fun _ => ?_)
        clear hK K
        refine wpAnyH_done (by kernel_rfl) ?_ _
        have S10 := (fr1 [_, _, _] HS9.out).boxPut 5 (.slice (some ⟨g9, 0, none⟩) (n + 1) c9)
        rw [pcb_set5] at S10
        have HF := Keep.mk (keys_back HC.out.2.1 HC.out.2.2 S10)
        clear S10 HS9 z0 z1
        go_wp2_with fail
        go_ret
        exact ⟨rfl, _, _, _, _, n + 1, by have := HC.out.1; omega, HF.out⟩
      refine AllReadyH.cons rfl (fun K hK => ?_) AllReadyH.nil
      have hG := rkeys_s (fr1 [_, _, _, _, _, _] HSE.out) HOK.out.four
      go_simp
      go_wp2_with fail
      refine hG.mono ?_
      rintro r w8 ⟨u, rfl, S7⟩
      clear hG HSE y2
      obtain ⟨ua, ul, uc, hv⟩ : ∃ a l c, u = .slice a l c := by obtain ⟨a, c, e⟩ := (S7.row k0m).slice; exact ⟨a, _, c, e⟩
      subst hv
      have S8 := fr1 [_, _, _, _, _] S7
      have y3 := (S7.plc k2m).wv
      have y3a := ((S7.grown (World.grownBy_alloc w8 (.cells #[.slice ua ul uc] 22) none)).plc k2m).wv
      obtain ⟨g9, c9, w9, ap, S9⟩ := S8.lists ua ul uc hn
      have z0 := (S9.plc k3m).wv
      have z1 := (S9.plc k3m).f5
      have AP := Keep.mk ap
      have HS9 := Keep.mk S9
      clear S7 S8 ap S9
      refine hK.out _ _ trivial (fun _ => ?_)
      clear hK K
      refine wpAnyH_ready (rs := [4, 7]) (by kernel_rfl) (by simp) ?_
      refine AllReadyH.cons rfl (fun K hK => ?_) ?_
      · go_simp
        go_wp2_with fail
        refine hK.out _ _ trivial (fun _ => ?_)
        clear hK K
        refine wpAnyH_ready (rs := [7]) (by kernel_rfl) (by simp) ?_
        refine AllReadyH.cons rfl (fun K hK => ?_) AllReadyH.nil
        go_simp
        go_wp2_with fail
        refine hK.out _ _ trivial (fun _ => ?_)
        clear hK K
        refine wpAnyH_ready (rs := [8]) (by kernel_rfl) (by simp) ?_
        refine AllReadyH.cons rfl (fun K hK => ?_) AllReadyH.nil
        rw [if_pos (by rfl)]
        refine wp_append_run _ _ 56 rfl _ _ rfl rfl AP.out ?_
        clear AP y3 y3a
        refine hK.out _ _ trivial (fun _ => ?_)
        clear hK K
        refine wpAnyH_take (i := 9) (oi := _) (v := ?_) rfl (by kernel_rfl) (by kernel_rfl) (by kernel_rfl) (fun _ _ _ h => h) (Or.inl ⟨by rfl, ?_⟩) (by assumption) ?_
        rotate_left
        · (intro w hSw; go_simp; first | done | (with_reducible rfl))
        simp only [Act.put, List.getElem_toArray, List.getElem_cons_succ, List.getElem_cons_zero, List.setIfInBounds_toArray, List.set_cons_zero, List.set_cons_succ]
        refine wpAnyH_take (i := 10) (oi := _) (v := ?_) rfl (by kernel_rfl) (by kernel_rfl) (by kernel_rfl) (fun _ _ _ h => h) (Or.inl ⟨by rfl, ?_⟩) (by assumption) ?_
        rotate_left
        · (intro w hSw; go_simp; first | done | (with_reducible rfl))
        simp only [Act.put, List.getElem_toArray, List.getElem_cons_succ, List.getElem_cons_zero, List.setIfInBounds_toArray, List.set_cons_zero, List.set_cons_succ]
        refine wpAnyH_ready (rs := [11]) (by kernel_rfl) (by simp) ?_
        refine AllReadyH.cons rfl (fun K hK => ?_) AllReadyH.nil
        go_simp
        go_wp2_with fail
        refine hK.out _ _ trivial (fun _ => ?_)
        clear hK K
        refine wpAnyH_done (by kernel_rfl) ?_ _
        have S10 := (fr1 [_, _, _] HS9.out).boxPut 5 (.slice (some ⟨g9, 0, none⟩) (n + 1) c9)
        rw [pcb_set5] at S10
        have HF := Keep.mk (keys_back HC.out.2.1 HC.out.2.2 S10)
        clear S10 HS9 z0 z1
        go_wp2_with fail
        go_ret
        exact ⟨rfl, _, _, _, _, n + 1, by have := HC.out.1; omega, HF.out⟩
      refine AllReadyH.cons rfl (fun K hK => ?_) AllReadyH.nil
      go_simp
      go_wp2_with fail
      refine hK.out _ _ trivial (fun _ => ?_)
      clear hK K
      refine wpAnyH_ready (rs := [4]) (by kernel_rfl) (by simp) ?_
      refine AllReadyH.cons rfl (fun K hK => ?_) AllReadyH.nil
      go_simp
      go_wp2_with fail
      refine hK.out _ _ trivial (fun _ => ?_)
      clear hK K
      refine wpAnyH_ready (rs := [8]) (by kernel_rfl) (by simp) ?_
      refine AllReadyH.cons rfl (fun K hK => ?_) AllReadyH.nil
      rw [if_pos (by rfl)]
      refine wp_append_run _ _ 56 rfl _ _ rfl rfl AP.out ?_
      clear AP y3 y3a
      refine hK.out _ _ trivial (fun _ => ?_)
      clear hK K
      refine wpAnyH_take (i := 9) (oi := _) (v := ?_) rfl (by kernel_rfl) (by kernel_rfl) (by kernel_rfl) (fun _ _ _ h => h) (Or.inl ⟨by rfl, ?_⟩) (by assumption) ?_
      rotate_left
      · (intro w hSw; go_simp; first | done | (with_reducible rfl))
      simp only [Act.put, List.getElem_toArray, List.getElem_cons_succ, List.getElem_cons_zero, List.setIfInBounds_toArray, List.set_cons_zero, List.set_cons_succ]
      refine wpAnyH_take (i := 10) (oi := _) (v := ?_) rfl (by kernel_rfl) (by kernel_rfl) (by kernel_rfl) (fun _ _ _ h => h) (Or.inl ⟨by rfl, ?_⟩) (by assumption) ?_
      rotate_left
      · (intro w hSw; go_simp; first | done | (with_reducible rfl))
      simp only [Act.put, List.getElem_toArray, List.getElem_cons_succ, List.getElem_cons_zero, List.setIfInBounds_toArray, List.set_cons_zero, List.set_cons_succ]
      refine wpAnyH_ready (rs := [11]) (by kernel_rfl) (by simp) ?_
      refine AllReadyH.cons rfl (fun K hK => ?_) AllReadyH.nil
      go_simp
      go_wp2_with fail
      refine hK.out _ _ trivial (fun _ => ?_)
      clear hK K
      refine wpAnyH_done (by kernel_rfl) ?_ _
      have S10 := (fr1 [_, _, _] HS9.out).boxPut 5 (.slice (some ⟨g9, 0, none⟩) (n + 1) c9)
      rw [pcb_set5] at S10
      have HF := Keep.mk (keys_back HC.out.2.1 HC.out.2.2 S10)
      clear S10 HS9 z0 z1
      go_wp2_with fail
      go_ret
      exact ⟨rfl, _, _, _, _, n + 1, by have := HC.out.1; omega, HF.out⟩
    refine AllReadyH.cons rfl (fun K hK => ?_) AllReadyH.nil
    go_simp
    go_wp2_with fail
    refine hK.out _ _ trivial (fun _ => ?_)
    clear hK K
    refine wpAnyH_ready (rs := [4]) (by kernel_rfl) (by simp) ?_
    refine AllReadyH.cons rfl (fun K hK => ?_) AllReadyH.nil
    go_simp
    go_wp2_with fail
    refine hK.out _ _ trivial (fun _ => ?_)
    clear hK K
    refine wpAnyH_ready (rs := [8]) (by kernel_rfl) (by simp) ?_
    refine AllReadyH.cons rfl (fun K hK => ?_) AllReadyH.nil
    rw [if_pos (by rfl)]
    refine wp_append_run _ _ 56 rfl _ _ rfl rfl AP.out ?_
    clear AP y3 y3a
    refine hK.out _ _ trivial (fun _ => ?_)
    clear hK K
    refine wpAnyH_take (i := 9) (oi := _) (v := ?_) rfl (by kernel_rfl) (by kernel_rfl) (by kernel_rfl) (fun _ _ _ h => h) (Or.inl ⟨by rfl, ?_⟩) (by assumption) ?_
    rotate_left
    · (intro w hSw; go_simp; first | done | (with_reducible rfl))
    simp only [Act.put, List.getElem_toArray, List.getElem_cons_succ, List.getElem_cons_zero, List.setIfInBounds_toArray, List.set_cons_zero, List.set_cons_succ]
    refine wpAnyH_take (i := 10) (oi := _) (v := ?_) rfl (by kernel_rfl) (by kernel_rfl) (by kernel_rfl) (fun _ _ _ h => h) (Or.inl ⟨by rfl, ?_⟩) (by assumption) ?_
    rotate_left
    · (intro w hSw; go_simp; first | done | (with_reducible rfl))
    simp only [Act.put, List.getElem_toArray, List.getElem_cons_succ, List.getElem_cons_zero, List.setIfInBounds_toArray, List.set_cons_zero, List.set_cons_succ]
    refine wpAnyH_ready (rs := [11]) (by kernel_rfl) (by simp) ?_
    refine AllReadyH.cons rfl (fun K hK => ?_) AllReadyH.nil
    go_simp
    go_wp2_with fail
    refine hK.out _ _ trivial (fun _ => ?_)
    clear hK K
    refine wpAnyH_done (by kernel_rfl) ?_ _
    have S6 := (fr1 [_, _, _, _] HS5.out).boxPut 4 (.slice (some ⟨g5, 0, none⟩) (n + 1) c5)
    rw [pcb_set4] at S6
    generalize hw6 : World.setCell w5 _ _ = w6 at S6 ⊢
    clear hw6 HS5 z0 z1
    have HS6 := Keep.mk S6
    clear S6
    go_wp2_with fail
    have SE := HS6.out.grown (gr_drew w6 none)
    refine wp_region_held_drew (S := fun _ => True) (by kernel_rfl) trivial (fun hHeld => ?_)
    generalize w6.drew = w7 at SE ⊢
    clear HS6
    have y2 := (SE.plc k0m).wv
    have HSE := Keep.mk SE
    clear SE
    refine wpAnyH_take (i := 0) (oi := _) (v := ?_) rfl (by kernel_rfl) (by kernel_rfl) (by kernel_rfl) (fun _ _ _ h => h) (Or.inl ⟨by rfl, ?_⟩) (by assumption) ?_
    rotate_left
    · (intro w hSw; go_simp; first | done | (with_reducible rfl))
    simp only [Act.put, List.getElem_toArray, List.getElem_cons_zero, List.setIfInBounds_toArray, List.set_cons_zero, List.set_cons_succ]
    refine wpAnyH_take (i := 1) (oi := _) (v := ?_) rfl (by kernel_rfl) (by kernel_rfl) (by kernel_rfl) (fun _ _ _ h => h) (Or.inl ⟨by rfl, ?_⟩) (by assumption) ?_
    rotate_left
    · (intro w hSw; go_simp; first | done | (with_reducible rfl))
    simp only [Act.put, List.getElem_toArray, List.getElem_cons_succ, List.getElem_cons_zero, List.setIfInBounds_toArray, List.set_cons_zero, List.set_cons_succ]
    refine wpAnyH_take (i := 2) (oi := _) (v := ?_) rfl (by kernel_rfl) (by kernel_rfl) (by kernel_rfl) (fun _ _ _ h => h) (Or.inl ⟨by rfl, ?_⟩) (by assumption) ?_
    rotate_left
    · (intro w hSw; go_simp; first | done | (with_reducible rfl))
    simp only [Act.put, List.getElem_toArray, List.getElem_cons_succ, List.getElem_cons_zero, List.setIfInBounds_toArray, List.set_cons_zero, List.set_cons_succ]
    refine wpAnyH_take (i := 3) (oi := _) (v := ?_) rfl (by kernel_rfl) (by kernel_rfl) (by kernel_rfl) (fun _ _ _ h => h) (Or.inl ⟨by rfl, ?_⟩) (by assumption) ?_
    rotate_left
    · (intro w hSw; go_simp; first | done | (with_reducible rfl))
    simp only [Act.put, List.getElem_toArray, List.getElem_cons_succ, List.getElem_cons_zero, List.setIfInBounds_toArray, List.set_cons_zero, List.set_cons_succ]
    refine wpAnyH_take (i := 5) (oi := _) (v := ?_) rfl (by kernel_rfl) (by kernel_rfl) (by kernel_rfl) (fun _ _ _ h => h) (Or.inl ⟨by rfl, ?_⟩) (by assumption) ?_
    rotate_left
    · (intro w hSw; go_simp; first | done | (with_reducible rfl))
    simp only [Act.put, List.getElem_toArray, List.getElem_cons_succ, List.getElem_cons_zero, List.setIfInBounds_toArray, List.set_cons_zero, List.set_cons_succ]
    refine wpAnyH_ready (rs := [4, 6]) (by kernel_rfl) (by simp) ?_
    refine AllReadyH.cons rfl (fun K hK => ?_) ?_
    · go_simp
      go_wp2_with fail
      refine hK.out _ _ trivial (fun _ => ?_)
      clear hK K
      refine wpAnyH_ready (rs := [6]) (by kernel_rfl) (by simp) ?_
      refine AllReadyH.cons rfl (fun K hK => ?_) AllReadyH.nil
      have hG := rkeys_s (fr1 [_, _, _, _, _, _] HSE.out) HOK.out.four
      go_simp
      go_wp2_with fail
      refine hG.mono ?_
      rintro r w8 ⟨u, rfl, S7⟩
      clear hG HSE y2
      obtain ⟨ua, ul, uc, hv⟩ : ∃ a l c, u = .slice a l c := by obtain ⟨a, c, e⟩ := (S7.row k0m).slice; exact ⟨a, _, c, e⟩
      subst hv
      have S8 := fr1 [_, _, _, _, _] S7
      have y3 := (S7.plc k2m).wv
      have y3a := ((S7.grown (World.grownBy_alloc w8 (.cells #[.slice ua ul uc] 22) none)).plc k2m).wv
      obtain ⟨g9, c9, w9, ap, S9⟩ := S8.lists ua ul uc hn
      have z0 := (S9.plc k3m).wv
      have z1 := (S9.plc k3m).f5
      have AP := Keep.mk ap
      have HS9 := Keep.mk S9
      clear S7 S8 ap S9
      refine hK.out _ _ trivial (fun _ => ?_)
      clear hK K
      refine wpAnyH_ready (rs := [7]) (by kernel_rfl) (by simp) ?_
      refine AllReadyH.cons rfl (fun K hK => ?_) AllReadyH.nil
      go_simp
      go_wp2_with fail
      refine hK.out _ _ trivial (fun _ => ?_)
      clear hK K
      refine wpAnyH_ready (rs := [8]) (by kernel_rfl) (by simp) ?_
      refine AllReadyH.cons rfl (fun K hK => ?_) AllReadyH.nil
      rw [if_pos (by rfl)]
      refine wp_append_run _ _ 56 rfl _ _ rfl rfl AP.out ?_
      clear AP y3 y3a
      refine hK.out _ _ trivial (fun _ => ?_)
      clear hK K
      refine wpAnyH_take (i := 9) (oi := _) (v := ?_) rfl (by kernel_rfl) (by kernel_rfl) (by kernel_rfl) (fun _ _ _ h => h) (Or.inl ⟨by rfl, ?_⟩) (by assumption) ?_
      rotate_left
      · (intro w hSw; go_simp; first | done | (with_reducible rfl))
      simp only [Act.put, List.getElem_toArray, List.getElem_cons_succ, List.getElem_cons_zero, List.setIfInBounds_toArray, List.set_cons_zero, List.set_cons_succ]
      refine wpAnyH_take (i := 10) (oi := _) (v := ?_) rfl (by kernel_rfl) (by kernel_rfl) (by kernel_rfl) (fun _ _ _ h => h) (Or.inl ⟨by rfl, ?_⟩) (by assumption) ?_
      rotate_left
      · (intro w hSw; go_simp; first | done | (with_reducible rfl))
      simp only [Act.put, List.getElem_toArray, List.getElem_cons_succ, List.getElem_cons_zero, List.setIfInBounds_toArray, List.set_cons_zero, List.set_cons_succ]
      refine wpAnyH_ready (rs := [11]) (by kernel_rfl) (by simp) ?_
      refine AllReadyH.cons rfl (fun K hK => ?_) AllReadyH.nil
      go_simp
      go_wp2_with fail
      refine hK.out _ _ trivial (fun _ => ?_)
      clear hK K
      refine wpAnyH_done (by kernel_rfl) ?_ _
      have S10 := (fr1 [_, _, _] HS9.out).boxPut 5 (.slice (some ⟨g9, 0, none⟩) (n + 1) c9)
      rw [pcb_set5] at S10
      have HF := Keep.mk (keys_back HC.out.2.1 HC.out.2.2 S10)
      clear S10 HS9 z0 z1
      go_wp2_with fail
      go_ret
      exact ⟨rfl, _, _, _, _, n + 1, by have := HC.out.1; omega, HF.out⟩
    refine AllReadyH.cons rfl (fun K hK => ?_) AllReadyH.nil
    have hG := rkeys_s (fr1 [_, _, _, _, _, _] HSE.out) HOK.out.four
    go_simp
    go_wp2_with fail
    refine hG.mono ?_
    rintro r w8 ⟨u, rfl, S7⟩
    clear hG HSE y2
    obtain ⟨ua, ul, uc, hv⟩ : ∃ a l c, u = .slice a l c := by obtain ⟨a, c, e⟩ := (S7.row k0m).slice; exact ⟨a, _, c, e⟩
    subst hv
    have S8 := fr1 [_, _, _, _, _] S7
    have y3 := (S7.plc k2m).wv
    have y3a := ((S7.grown (World.grownBy_alloc w8 (.cells #[.slice ua ul uc] 22) none)).plc k2m).wv
    obtain ⟨g9, c9, w9, ap, S9⟩ := S8.lists ua ul uc hn
    have z0 := (S9.plc k3m).wv
    have z1 := (S9.plc k3m).f5
    have AP := Keep.mk ap
    have HS9 := Keep.mk S9
    clear S7 S8 ap S9
    refine hK.out _ _ trivial (fun _ => ?_)
    clear hK K
    refine wpAnyH_ready (rs := [4, 7]) (by kernel_rfl) (by simp) ?_
    refine AllReadyH.cons rfl (fun K hK => ?_) ?_
    · go_simp
      go_wp2_with fail
      refine hK.out _ _ trivial (fun _ => ?_)
      clear hK K
      refine wpAnyH_ready (rs := [7]) (by kernel_rfl) (by simp) ?_
      refine AllReadyH.cons rfl (fun K hK => ?_) AllReadyH.nil
      go_simp
      go_wp2_with fail
      refine hK.out _ _ trivial (fun _ => ?_)
      clear hK K
      refine wpAnyH_ready (rs := [8]) (by kernel_rfl) (by simp) ?_
      refine AllReadyH.cons rfl (fun K hK => ?_) AllReadyH.nil
      rw [if_pos (by rfl)]
      refine wp_append_run _ _ 56 rfl _ _ rfl rfl AP.out ?_
      clear AP y3 y3a
      refine hK.out _ _ trivial (fun _ => ?_)
      clear hK K
      refine wpAnyH_take (i := 9) (oi := _) (v := ?_) rfl (by kernel_rfl) (by kernel_rfl) (by kernel_rfl) (fun _ _ _ h => h) (Or.inl ⟨by rfl, ?_⟩) (by assumption) ?_
      rotate_left
      · (intro w hSw; go_simp; first | done | (with_reducible rfl))
      simp only [Act.put, List.getElem_toArray, List.getElem_cons_succ, List.getElem_cons_zero, List.setIfInBounds_toArray, List.set_cons_zero, List.set_cons_succ]
      refine wpAnyH_take (i := 10) (oi := _) (v := ?_) rfl (by kernel_rfl) (by kernel_rfl) (by kernel_rfl) (fun _ _ _ h => h) (Or.inl ⟨by rfl, ?_⟩) (by assumption) ?_
      rotate_left
      · (intro w hSw; go_simp; first | done | (with_reducible rfl))
      simp only [Act.put, List.getElem_toArray, List.getElem_cons_succ, List.getElem_cons_zero, List.setIfInBounds_toArray, List.set_cons_zero, List.set_cons_succ]
      refine wpAnyH_ready (rs := [11]) (by kernel_rfl) (by simp) ?_
      refine AllReadyH.cons rfl (fun K hK => ?_) AllReadyH.nil
      go_simp
      go_wp2_with fail
      refine hK.out _ _ trivial (fun _ => ?_)
      clear hK K
      refine wpAnyH_done (by kernel_rfl) ?_ _
      have S10 := (fr1 [_, _, _] HS9.out).boxPut 5 (.slice (some ⟨g9, 0, none⟩) (n + 1) c9)
      rw [pcb_set5] at S10
      have HF := Keep.mk (keys_back HC.out.2.1 HC.out.2.2 S10)
      clear S10 HS9 z0 z1
      go_wp2_with fail
      go_ret
      exact ⟨rfl, _, _, _, _, n + 1, by have := HC.out.1; omega, HF.out⟩
    refine AllReadyH.cons rfl (fun K hK => ?_) AllReadyH.nil
    go_simp
    go_wp2_with fail
    refine hK.out _ _ trivial (fun _ => ?_)
    clear hK K
    refine wpAnyH_ready (rs := [4]) (by kernel_rfl) (by simp) ?_
    refine AllReadyH.cons rfl (fun K hK => ?_) AllReadyH.nil
    go_simp
    go_wp2_with fail
    refine hK.out _ _ trivial (fun _ => ?_)
    clear hK K
    refine wpAnyH_ready (rs := [8]) (by kernel_rfl) (by simp) ?_
    refine AllReadyH.cons rfl (fun K hK => ?_) AllReadyH.nil
    rw [if_pos (by rfl)]
    refine wp_append_run _ _ 56 rfl _ _ rfl rfl AP.out ?_
    clear AP y3 y3a
    refine hK.out _ _ trivial (fun _ => ?_)
    clear hK K
    refine wpAnyH_take (i := 9) (oi := _) (v := ?_) rfl (by kernel_rfl) (by kernel_rfl) (by kernel_rfl) (fun _ _ _ h => h) (Or.inl ⟨by rfl, ?_⟩) (by assumption) ?_
    rotate_left
    · (intro w hSw; go_simp; first | done | (with_reducible rfl))
    simp only [Act.put, List.getElem_toArray, List.getElem_cons_succ, List.getElem_cons_zero, List.setIfInBounds_toArray, List.set_cons_zero, List.set_cons_succ]
    refine wpAnyH_take (i := 10) (oi := _) (v := ?_) rfl (by kernel_rfl) (by kernel_rfl) (by kernel_rfl) (fun _ _ _ h => h) (Or.inl ⟨by rfl, ?_⟩) (by assumption) ?_
    rotate_left
    · (intro w hSw; go_simp; first | done | (with_reducible rfl))
    simp only [Act.put, List.getElem_toArray, List.getElem_cons_succ, List.getElem_cons_zero, List.setIfInBounds_toArray, List.set_cons_zero, List.set_cons_succ]
    refine wpAnyH_ready (rs := [11]) (by kernel_rfl) (by simp) ?_
    refine AllReadyH.cons rfl (fun K hK => ?_) AllReadyH.nil
    go_simp
    go_wp2_with fail
    refine hK.out _ _ trivial (fun _ => ?_)
    clear hK K
    refine wpAnyH_done (by kernel_rfl) ?_ _
    have S10 := (fr1 [_, _, _] HS9.out).boxPut 5 (.slice (some ⟨g9, 0, none⟩) (n + 1) c9)
    rw [pcb_set5] at S10
    have HF := Keep.mk (keys_back HC.out.2.1 HC.out.2.2 S10)
    clear S10 HS9 z0 z1
    go_wp2_with fail
    go_ret
    exact ⟨rfl, _, _, _, _, n + 1, by have := HC.out.1; omega, HF.out⟩
end Go.Proofs.Ytkaakbldkicnaaa
