/- grid: enter and leave, over what lies there. -/
import Derived.Test.YtgedlabmndlooaaGreatG4
namespace Go.Proofs.YtgedlabmndlooaaGreat
open Go Go.RowKit

set_option maxRecDepth 100000 in
theorem Sep.permM {α : Type} {w0 W : World} (X : List As) {C C' : List α} {f : α → As} {l : List As} (hp : C.Perm C') (h : Sep w0 W (X ++ (C.map f ++ l))) : Sep w0 W (X ++ (C'.map f ++ l)) :=
  h.perm (((hp.map f).append_right l).append_left X)
set_option maxRecDepth 100000 in
theorem pm3 {α : Type} (A B l : List α) : (A ++ (B ++ l)).Perm (B ++ (A ++ l)) := by
  rw [← List.append_assoc, ← List.append_assoc]
  exact List.perm_append_comm.append_right l
def core (t : Tg) : Tg := { t with p := 0 }
def setp (b p : Nat) (A : List Tg) : List Tg := A.map (fun u => if u.b = b then { u with p := p } else u)
set_option maxRecDepth 100000 in
theorem setp_core (b p : Nat) (A : List Tg) : (setp b p A).map core = A.map core := by
  unfold setp
  rw [List.map_map]
  refine List.map_congr_left fun u _ => ?_
  simp only [Function.comp]
  split <;> rfl
set_option maxRecDepth 100000 in
theorem setp_perm {A R : List Tg} {t : Tg} (p : Nat) (hp : A.Perm (t :: R)) (hn : ∀ u ∈ R, t.b ≠ u.b) : (setp t.b p A).Perm ({ t with p := p } :: R) := by
  have h := hp.map (fun u => if u.b = t.b then { u with p := p } else u)
  rw [List.map_cons, if_pos rfl] at h
  refine h.trans (List.Perm.cons _ ?_)
  have e : R.map (fun u => if u.b = t.b then { u with p := p } else u) = R := by
    conv => rhs; rw [← List.map_id R]
    refine List.map_congr_left fun u hu => ?_
    rw [if_neg (Ne.symm (hn u hu))]; rfl
  rw [e]
set_option maxRecDepth 100000 in
theorem mem_perm {α : Type} {A : List α} {t : α} (h : t ∈ A) : ∃ R, A.Perm (t :: R) := by
  obtain ⟨A1, A2, rfl⟩ := List.append_of_mem h
  exact ⟨A1 ++ A2, List.perm_middle⟩
abbrev gbx (gb : Nat) (sd : Int) (va mi : Value) (mc : Nat) : As := boxA gb [iv sd, va, mi, .map (some mc)] 103
set_option maxRecDepth 100000 in
theorem enter_c (w0 W : World) (l : List As) (gb mc : Nat) (sd : Int) (va mi : Value) (A : List Tg) (C : List Cl) (t : Tg) (ht : t ∈ A) (hs : 1 ≤ sd ∧ sd ≤ 1099511627776) (hx : I64 t.x) (hy : I64 t.y) (hj : Jok sd A C (some t.b)) (hn : A.length * 8 ≤ 140737488355328)
    (h : Sep w0 W (gbx gb sd va mi mc :: mapA cellsM mc C.length (clf C) :: (A.map tgA ++ (C.map clA ++ l)))) :
    Calls Tryz.prog 76 #[pt gb, pt t.b] W fun e W' => e = .returned (.tuple #[]) ∧ ∃ A' C', A'.map core = A.map core ∧ Jok sd A' C' none ∧ Sep w0 W' (gbx gb sd va mi mc :: mapA cellsM mc C'.length (clf C') :: (A'.map tgA ++ (C'.map clA ++ l))) := by
  obtain ⟨R, hA⟩ := mem_perm ht
  have hj1 := hj.perm hA (List.Perm.refl C)
  have hbn := (List.pairwise_cons.1 hj1.bd).1
  have S1 : Sep w0 W ([gbx gb sd va mi mc, mapA cellsM mc C.length (clf C), tgA t] ++ (R.map tgA ++ (C.map clA ++ l))) := Sep.permM [_, _] hA h
  have S2 : Sep w0 W ([gbx gb sd va mi mc, mapA cellsM mc C.length (clf C), tgA t] ++ (C.map clA ++ (R.map tgA ++ l))) := by
    refine S1.perm (List.Perm.append_left _ ?_)
    exact pm3 _ _ _
  have hfew := hj.few
  have fin : ∀ (W' : World) (p m2 : Nat) (c' : Cl) (D : List Cl) (f' : Int × Int → Option Sl), m2 = (c' :: D).length → f' = clf (c' :: D) → Jok sd ({ t with p := p } :: R) (c' :: D) none →
      Sep w0 W' (gbx gb sd va mi mc :: mapA cellsM mc m2 f' :: clA c' :: tgA { t with p := p } :: (D.map clA ++ (R.map tgA ++ l))) →
      ∃ A' C', A'.map core = A.map core ∧ Jok sd A' C' none ∧ Sep w0 W' (gbx gb sd va mi mc :: mapA cellsM mc C'.length (clf C') :: (A'.map tgA ++ (C'.map clA ++ l))) := by
    intro W' p m2 c' D f' e1 e2 hJ S
    subst e1 e2
    have hp := setp_perm (t := t) p hA hbn
    refine ⟨setp t.b p A, c' :: D, setp_core _ _ _, hJ.perm hp.symm (List.Perm.refl _), ?_⟩
    refine Sep.permM [_, _] hp.symm ?_
    have S3 : Sep w0 W' ([gbx gb sd va mi mc, mapA cellsM mc (c' :: D).length (clf (c' :: D)), tgA { t with p := p }] ++ ((c' :: D).map clA ++ (R.map tgA ++ l))) := by
      refine S.perm ?_
      exact (((List.Perm.swap _ _ _).cons _).cons _)
    refine S3.perm (List.Perm.append_left _ ?_)
    exact pm3 _ _ _
  by_cases hex : ∃ c ∈ C, c.k = cel sd t
  · obtain ⟨c, hc, hk⟩ := hex
    obtain ⟨D, hC⟩ := mem_perm hc
    have hj2 := hj1.perm (List.Perm.refl _) hC
    rw [clf_perm hj.kd hC, hC.length_eq] at S2
    have S3 : Sep w0 W ([gbx gb sd va mi mc, mapA cellsM mc (c :: D).length (clf (c :: D)), tgA t, clA c] ++ (D.map clA ++ (R.map tgA ++ l))) := Sep.permM [_, _, _] hC S2
    have S4 : Sep w0 W (gbx gb sd va mi mc :: mapA cellsM mc (c :: D).length (clf (c :: D)) :: rowV 119 1 (sl c.g c.L.length c.c) c.L.length (c.L.map pt) :: boxA t.b [iv t.id, iv t.x, iv t.y, iv t.s, iv t.p] 122 :: (D.map clA ++ (R.map tgA ++ l))) := by
      refine S3.perm ?_
      exact (((List.Perm.swap _ _ _).cons _).cons _)
    have hk2 : clf (c :: D) (t.x / sd, t.y / sd) = some (clS c) := by
      rw [clf_cons, if_pos (show c.k = (t.x / sd, t.y / sd) from hk)]
    have hcl := hj.cellLen hc
    have hlen : c.L.length + 1 ≤ A.length := by
      have h1 := hj2.sz
      rw [lens_cons] at h1
      rw [if_neg nofun, ← hA.length_eq] at h1
      omega
    refine (enter_w w0 W _ gb mc (c :: D).length t.b c.L.length sd t.x t.y va mi (sl c.g c.L.length c.c) (iv t.id) (iv t.s) (iv t.p) (c.L.map pt) (clf (c :: D)) hs hx hy (by rw [hk2]; rfl) (by omega) (by rw [← hC.length_eq]; omega) (c :: D).length (by rw [hk2]; rfl) S4).mono ?_
    rintro e W' ⟨g, q, rfl, S5⟩
    refine ⟨rfl, fin W' c.L.length _ ⟨c.k, g, q, c.L ++ [t.b]⟩ D (upd (clf (c :: D)) (t.x / sd, t.y / sd) (some (g + 1, c.L.length + 1, q))) rfl ?_ (hj2.enter hk rfl rfl rfl rfl rfl) ?_⟩
    · have e := clf_upd (c := c) (c' := ⟨c.k, g, q, c.L ++ [t.b]⟩) (D := D) rfl
      rw [← e]
      have hk3 : c.k = (t.x / sd, t.y / sd) := hk
      rw [hk3]
      simp [clS]
    · simp only [clA, List.map_append, List.map_cons, List.map_nil, List.length_append, List.length_cons, List.length_nil, Nat.zero_add]
      exact S5
  · have hno : ∀ c ∈ C, c.k ≠ cel sd t := fun c hc e => hex ⟨c, hc, e⟩
    have hk2 : clf C (t.x / sd, t.y / sd) = none := clf_none hno
    have S4 : Sep w0 W (gbx gb sd va mi mc :: mapA cellsM mc C.length (clf C) :: rowV 119 1 (.slice none 0 0) 0 [] :: boxA t.b [iv t.id, iv t.x, iv t.y, iv t.s, iv t.p] 122 :: (C.map clA ++ (R.map tgA ++ l))) := bk1 [_, _] (S2.nilV 119 1)
    refine (enter_w w0 W _ gb mc C.length t.b 0 sd t.x t.y va mi (.slice none 0 0) (iv t.id) (iv t.s) (iv t.p) [] (clf C) hs hx hy (by rw [hk2]; rfl) (by omega) (by omega) (C.length + 1) (by rw [hk2]; rfl) S4).mono ?_
    rintro e W' ⟨g, q, rfl, S5⟩
    refine ⟨rfl, fin W' 0 _ ⟨cel sd t, g, q, [t.b]⟩ C (upd (clf C) (t.x / sd, t.y / sd) (some (g + 1, 1, q))) rfl ?_ (hj1.enterNew hno rfl rfl rfl rfl rfl) ?_⟩
    · rw [← clf_new]; rfl
    · exact S5
set_option maxRecDepth 100000 in
theorem leave_c (w0 W : World) (l : List As) (gb mc : Nat) (sd : Int) (va mi : Value) (A : List Tg) (C : List Cl) (t : Tg) (ht : t ∈ A) (hs : 1 ≤ sd ∧ sd ≤ 1099511627776) (hx : I64 t.x) (hy : I64 t.y) (hj : Jok sd A C none) (hn : A.length * 8 ≤ 140737488355328)
    (h : Sep w0 W (gbx gb sd va mi mc :: mapA cellsM mc C.length (clf C) :: (A.map tgA ++ (C.map clA ++ l)))) :
    Calls Tryz.prog 75 #[pt gb, pt t.b] W fun e W' => e = .returned (.tuple #[]) ∧ ∃ A' C', A'.map core = A.map core ∧ Jok sd A' C' (some t.b) ∧ Sep w0 W' (gbx gb sd va mi mc :: mapA cellsM mc C'.length (clf C') :: (A'.map tgA ++ (C'.map clA ++ l))) := by
  obtain ⟨c, hc, hk, hl⟩ := hj.to t ht nofun
  obtain ⟨D, hC⟩ := mem_perm hc
  obtain ⟨R, hA⟩ := mem_perm ht
  have hcl := hj.cellLen hc
  have hfew := hj.few
  have hlt := (List.getElem?_eq_some_iff.1 hl).1
  obtain ⟨m, hm⟩ : ∃ m, c.L.length = m + 1 := ⟨c.L.length - 1, by omega⟩
  obtain ⟨ub, hub⟩ : ∃ ub, c.L[m]? = some ub := ⟨_, List.getElem?_eq_getElem (by omega)⟩
  obtain ⟨u, hu, hu1, hu2, hu3, _⟩ := hj.fro c hc m ub hub
  subst hu1
  have hj2 := hj.perm hA hC
  have hk3 : c.k = (t.x / sd, t.y / sd) := hk
  have hk2 : clf (c :: D) (t.x / sd, t.y / sd) = some (clS c) := by
    rw [clf_cons, if_pos (show c.k = (t.x / sd, t.y / sd) from hk)]
  have hfn : clf C = clf (c :: D) := clf_perm hj.kd hC
  have hln : C.length = (c :: D).length := hC.length_eq
  rw [hfn, hln] at h
  have hdn : ∀ d ∈ D, d.k ≠ c.k := fun d hd => ((List.pairwise_cons.1 hj2.kd).1 d hd).symm
  have S0 : Sep w0 W ([gbx gb sd va mi mc, mapA cellsM mc (c :: D).length (clf (c :: D))] ++ ((c :: D).map clA ++ (A.map tgA ++ l))) := by
    have h2 : Sep w0 W ([gbx gb sd va mi mc, mapA cellsM mc (c :: D).length (clf (c :: D))] ++ (C.map clA ++ (A.map tgA ++ l))) := by
      refine h.perm (List.Perm.append_left [_, _] ?_)
      exact pm3 _ _ _
    exact Sep.permM [_, _] hC h2
  -- back to where the things stand first
  have fin : ∀ (W' : World) (A' : List Tg) (C' : List Cl) (m2 : Nat) (f' : Int × Int → Option Sl), m2 = C'.length → f' = clf C' → A'.map core = A.map core → Jok sd A' C' (some t.b) →
      Sep w0 W' ([gbx gb sd va mi mc, mapA cellsM mc m2 f'] ++ (C'.map clA ++ (A'.map tgA ++ l))) →
      ∃ A' C', A'.map core = A.map core ∧ Jok sd A' C' (some t.b) ∧ Sep w0 W' (gbx gb sd va mi mc :: mapA cellsM mc C'.length (clf C') :: (A'.map tgA ++ (C'.map clA ++ l))) := by
    intro W' A' C' m2 f' e1 e2 hco hJ S
    subst e1 e2
    refine ⟨A', C', hco, hJ, ?_⟩
    refine S.perm (List.Perm.append_left [_, _] ?_)
    exact pm3 _ _ _
  by_cases hut : u.b = t.b
  · have e := hj.uniq hu ht hut
    subst e
    have hpm : u.p = m := hu2
    have S1 : Sep w0 W (gbx gb sd va mi mc :: mapA cellsM mc (c :: D).length (clf (c :: D)) :: ([rowV 119 1 (sl c.g (m + 1) c.c) (m + 1) (c.L.map pt), boxA u.b [iv u.id, iv u.x, iv u.y, iv u.s, iv m] 122] ++ (D.map clA ++ (R.map tgA ++ l)))) := by
      have S2 : Sep w0 W ([gbx gb sd va mi mc, mapA cellsM mc (c :: D).length (clf (c :: D)), clA c] ++ (D.map clA ++ (A.map tgA ++ l))) := S0
      have S3 : Sep w0 W (([gbx gb sd va mi mc, mapA cellsM mc (c :: D).length (clf (c :: D)), clA c] ++ D.map clA) ++ ((u :: R).map tgA ++ l)) := Sep.permM _ hA (by rw [List.append_assoc]; exact S2)
      rw [List.append_assoc] at S3
      have S4 : Sep w0 W ([gbx gb sd va mi mc, mapA cellsM mc (c :: D).length (clf (c :: D)), clA c] ++ (tgA u :: (D.map clA ++ (R.map tgA ++ l)))) := by
        refine S3.perm (List.Perm.append_left _ ?_)
        exact List.perm_middle
      rw [← hm, ← hpm]
      exact S4
    have eset : ((c.L.map pt).set m (pt u.b)).take m = (c.L.take m).map pt := by
      rw [List.take_set_of_le (Nat.le_refl _), List.map_take]
    have back : ∀ (W' : World) (f' : Int × Int → Option Sl) (m2 : Nat) (r : As), Sep w0 W' (gbx gb sd va mi mc :: mapA cellsM mc m2 f' :: ([r, boxA u.b [iv u.id, iv u.x, iv u.y, iv u.s, iv m] 122] ++ (D.map clA ++ (R.map tgA ++ l)))) →
        Sep w0 W' ([gbx gb sd va mi mc, mapA cellsM mc m2 f'] ++ (r :: (D.map clA ++ (A.map tgA ++ l)))) := by
      intro W' f' m2 r S
      have S4 : Sep w0 W' ([gbx gb sd va mi mc, mapA cellsM mc m2 f', r] ++ (D.map clA ++ ((u :: R).map tgA ++ l))) := by
        have e : tgA u = boxA u.b [iv u.id, iv u.x, iv u.y, iv u.s, iv m] 122 := by unfold tgA; rw [hpm]
        rw [List.map_cons, e]
        refine S.perm ?_
        refine List.Perm.append_left [_, _, _] ?_
        exact (List.perm_middle (l₁ := D.map clA) (l₂ := R.map tgA ++ l)).symm
      have S5 : Sep w0 W' (([gbx gb sd va mi mc, mapA cellsM mc m2 f', r] ++ D.map clA) ++ (A.map tgA ++ l)) := Sep.permM _ hA.symm (by rw [List.append_assoc]; exact S4)
      rw [List.append_assoc] at S5
      exact S5
    have hxm : (c.L.map pt)[m]? = some (pt u.b) := by rw [List.getElem?_map, hub]; rfl
    have hD : ∀ (w0 W : World) (l : List As), Sep w0 W ([rowV 119 1 (sl c.g (m + 1) c.c) (m + 1) (c.L.map pt), boxA u.b [iv u.id, iv u.x, iv u.y, iv u.s, iv m] 122] ++ l) → Calls Tryz.prog 86 #[sl c.g (m + 1) c.c, iv 1, pt u.b] W fun e W' => e = .returned (sl c.g m c.c) ∧ Sep w0 W' ([rowV 119 1 (sl c.g m c.c) m ((c.L.take m).map pt), boxA u.b [iv u.id, iv u.x, iv u.y, iv u.s, iv m] 122] ++ l) := by
      intro w0 W l hS
      have := dropL1 w0 W l c.g m c.c m (c.L.map pt) u.b (iv u.id) (iv u.x) (iv u.y) (iv u.s) rfl (by omega) hxm hS
      rw [eset] at this
      exact this
    have hvv : cellsM.ev ((clf (c :: D) (u.x / sd, u.y / sd)).getD cellsM.z) = sl c.g (m + 1) c.c := by rw [hk2, ← hm]; rfl
    by_cases hm0 : 0 < m
    · refine (leave_some w0 W _ _ _ gb mc (c :: D).length u.b c.g m c.c sd u.x u.y va mi _ (iv u.id) (iv u.s) (iv m) (clf (c :: D)) hs hx hy hvv hm0 (by omega) (c :: D).length (by rw [hk2]; rfl) hD (List.mem_cons_of_mem _ (List.mem_cons_self ..)) S1).mono ?_
      rintro e W' ⟨rfl, S5⟩
      have hlm : (c.L.take m).length = m := by rw [List.length_take]; omega
      refine ⟨rfl, fin W' A (⟨c.k, c.g, c.c, c.L.take m⟩ :: D) _ (upd (clf (c :: D)) (u.x / sd, u.y / sd) (some (c.g + 1, m, c.c))) rfl ?_ rfl ?_ (?_)⟩
      · have e := clf_upd (c := c) (c' := ⟨c.k, c.g, c.c, c.L.take m⟩) (D := D) rfl
        rw [← e, hk3]
        simp only [clS, hlm]
      · refine (hj2.leaveLast (c' := ⟨c.k, c.g, c.c, c.L.take m⟩) hk (by rw [hpm, hm]) hl rfl (by rw [hpm]) ?_).perm hA.symm (List.Perm.refl _)
        intro e
        have e2 : (c.L.take m).length = 0 := by rw [show c.L.take m = [] from e]; rfl
        omega
      · have := back _ _ _ _ S5
        simp only [List.map_cons, clA, hlm]
        exact this
    · have hm00 : m = 0 := by omega
      subst hm00
      refine (leave_none w0 W _ _ _ gb mc (c :: D).length u.b c.g 0 c.c sd u.x u.y va mi _ (iv u.id) (iv u.s) (iv (0 : Nat)) (clf (c :: D)) hs hx hy hvv rfl (by omega) D.length (by rw [hk2]; rfl) hD (List.mem_cons_of_mem _ (List.mem_cons_self ..)) S1).mono ?_
      rintro e W' ⟨rfl, S5⟩
      refine ⟨rfl, fin W' A D _ (upd (clf (c :: D)) (u.x / sd, u.y / sd) none) rfl ?_ rfl ?_ ?_⟩
      · have e := clf_del hdn
        rw [← e, hk3]
      · exact (hj2.leaveOnly hk (by omega) hl).perm hA.symm (List.Perm.refl _)
      · exact (fr1 [_, _] (back _ _ _ _ S5)).tail
  · -- another one comes to stand there
    have huR : u ∈ R := by
      rcases List.mem_cons.1 (hA.mem_iff.1 hu) with rfl | q
      · exact absurd rfl hut
      · exact q
    obtain ⟨R0, hR⟩ := mem_perm huR
    have hA2 : A.Perm (t :: u :: R0) := hA.trans (hR.cons t)
    have hA3 : A.Perm (u :: t :: R0) := hA2.trans (List.Perm.swap _ _ _)
    have hj3 := hj.perm hA2 hC
    have hup : u.p = m := hu2
    have hpt : t.p < m := by
      have : t.p ≠ m := fun e => by
        rw [e, hub] at hl
        exact hut (Option.some.inj hl)
      omega
    have hb3 := (List.pairwise_cons.1 (hj.perm hA3 hC).bd).1
    have S1 : Sep w0 W (gbx gb sd va mi mc :: mapA cellsM mc (c :: D).length (clf (c :: D)) :: ([rowV 119 1 (sl c.g (m + 1) c.c) (m + 1) (c.L.map pt), boxA t.b [iv t.id, iv t.x, iv t.y, iv t.s, iv t.p] 122, boxA u.b [iv u.id, iv u.x, iv u.y, iv u.s, iv u.p] 122] ++ (D.map clA ++ (R0.map tgA ++ l)))) := by
      have S2 : Sep w0 W ([gbx gb sd va mi mc, mapA cellsM mc (c :: D).length (clf (c :: D)), clA c] ++ (D.map clA ++ (A.map tgA ++ l))) := S0
      have S3 : Sep w0 W (([gbx gb sd va mi mc, mapA cellsM mc (c :: D).length (clf (c :: D)), clA c] ++ D.map clA) ++ ((t :: u :: R0).map tgA ++ l)) := Sep.permM _ hA2 (by rw [List.append_assoc]; exact S2)
      rw [List.append_assoc] at S3
      have S4 : Sep w0 W ([gbx gb sd va mi mc, mapA cellsM mc (c :: D).length (clf (c :: D)), clA c] ++ (tgA t :: tgA u :: (D.map clA ++ (R0.map tgA ++ l)))) := by
        refine S3.perm (List.Perm.append_left _ ?_)
        exact List.perm_middle.trans (List.perm_middle.cons _)
      rw [← hm]
      exact S4
    have hxm : (c.L.map pt)[m]? = some (pt u.b) := by rw [List.getElem?_map, hub]; rfl
    have eset : ((c.L.map pt).set t.p (pt u.b)).take m = ((c.L.set t.p u.b).take m).map pt := by
      rw [List.map_take, List.map_set]
    have hD : ∀ (w0 W : World) (l : List As), Sep w0 W ([rowV 119 1 (sl c.g (m + 1) c.c) (m + 1) (c.L.map pt), boxA t.b [iv t.id, iv t.x, iv t.y, iv t.s, iv t.p] 122, boxA u.b [iv u.id, iv u.x, iv u.y, iv u.s, iv u.p] 122] ++ l) → Calls Tryz.prog 86 #[sl c.g (m + 1) c.c, iv 1, pt t.b] W fun e W' => e = .returned (sl c.g m c.c) ∧ Sep w0 W' ([rowV 119 1 (sl c.g m c.c) m (((c.L.set t.p u.b).take m).map pt), boxA t.b [iv t.id, iv t.x, iv t.y, iv t.s, iv t.p] 122, boxA u.b [iv u.id, iv u.x, iv u.y, iv u.s, iv t.p] 122] ++ l) := by
      intro w0 W l hS
      have := dropM1 w0 W l c.g m c.c t.p (c.L.map pt) t.b u.b (iv t.id) (iv t.x) (iv t.y) (iv t.s) (iv u.id) (iv u.x) (iv u.y) (iv u.s) (iv u.p) hpt (by omega) hxm hS
      rw [eset] at this
      exact this
    have hvv : cellsM.ev ((clf (c :: D) (t.x / sd, t.y / sd)).getD cellsM.z) = sl c.g (m + 1) c.c := by rw [hk2, ← hm]; rfl
    obtain ⟨hJ, hne⟩ := hj3.leaveMid (u' := { u with p := t.p }) (c' := ⟨c.k, c.g, c.c, (c.L.set t.p u.b).take u.p⟩) hk hl (by rw [hup]; exact hub) (by rw [hup, hm]) (Ne.symm hut) rfl rfl rfl rfl rfl
    rw [hup] at hJ hne
    refine (leave_some w0 W _ _ _ gb mc (c :: D).length t.b c.g m c.c sd t.x t.y va mi _ (iv t.id) (iv t.s) (iv t.p) (clf (c :: D)) hs hx hy hvv (by omega) (by omega) (c :: D).length (by rw [hk2]; rfl) hD (List.mem_cons_of_mem _ (List.mem_cons_self ..)) S1).mono ?_
    rintro e W' ⟨rfl, S5⟩
    have hlm : ((c.L.set t.p u.b).take m).length = m := by rw [List.length_take, List.length_set]; omega
    have hsp := setp_perm (t := u) t.p hA3 hb3
    refine ⟨rfl, fin W' (setp u.b t.p A) (⟨c.k, c.g, c.c, (c.L.set t.p u.b).take m⟩ :: D) _ (upd (clf (c :: D)) (t.x / sd, t.y / sd) (some (c.g + 1, m, c.c))) rfl ?_ (setp_core _ _ _) (hJ.perm ((List.Perm.swap _ _ _).trans hsp.symm) (List.Perm.refl _)) ?_⟩
    · have e := clf_upd (c := c) (c' := ⟨c.k, c.g, c.c, (c.L.set t.p u.b).take m⟩) (D := D) rfl
      rw [← e, hk3]
      simp only [clS, hlm]
    · have S4 : Sep w0 W' ([gbx gb sd va mi mc, mapA cellsM mc (c :: D).length (upd (clf (c :: D)) (t.x / sd, t.y / sd) (some (c.g + 1, m, c.c))), rowV 119 1 (sl c.g m c.c) m (((c.L.set t.p u.b).take m).map pt)] ++ (D.map clA ++ (({ u with p := t.p } :: t :: R0).map tgA ++ l))) := by
        refine S5.perm ?_
        refine List.Perm.append_left [_, _, _] ?_
        refine (List.Perm.swap _ _ _).trans ?_
        exact (((List.perm_middle (l₁ := D.map clA) (l₂ := R0.map tgA ++ l)).symm).cons _).trans (List.perm_middle (l₁ := D.map clA)).symm
      have S6 := Sep.permM ([gbx gb sd va mi mc, mapA cellsM mc (c :: D).length (upd (clf (c :: D)) (t.x / sd, t.y / sd) (some (c.g + 1, m, c.c))), rowV 119 1 (sl c.g m c.c) m (((c.L.set t.p u.b).take m).map pt)] ++ D.map clA) hsp.symm (by rw [List.append_assoc]; exact S4)
      rw [List.append_assoc] at S6
      simp only [List.map_cons, clA, hlm]
      exact S6
end Go.Proofs.YtgedlabmndlooaaGreat
