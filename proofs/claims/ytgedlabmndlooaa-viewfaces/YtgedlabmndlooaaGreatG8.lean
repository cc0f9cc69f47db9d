/- G5, G6, G7, G8 -/
import Derived.Test.YtgedlabmndlooaaGreatG4
namespace Go.Proofs.YtgedlabmndlooaaGreat
open Go Go.RowKit

set_option maxRecDepth 100000 in
theorem Sep.permM {α : Type} {w0 W : World} (X : List As) {C C' : List α} {f : α → As} {l : List As} (hp : C.Perm C') (h : Sep w0 W (X ++ (C.map f ++ l))) : Sep w0 W (X ++ (C'.map f ++ l)) :=
  h.perm (((hp.map f).append_right l).append_left X)
set_option maxRecDepth 100000 in
theorem pm3 {α : Type} (A B l : List α) : (A ++ (B ++ l)).Perm (B ++ (A ++ l)) := by
  rw [← List.append_assoc, ← List.append_assoc]
  exact List.perm_append_comm.append_right l
def core (t : Tg) : Tg := { t with p := 0 }
def setp (b p : Nat) (A : List Tg) : List Tg := A.map (fun u => if u.b = b then { u with p := p } else u)
set_option maxRecDepth 100000 in
theorem setp_core (b p : Nat) (A : List Tg) : (setp b p A).map core = A.map core := by
  unfold setp
  rw [List.map_map]
  refine List.map_congr_left fun u _ => ?_
  simp only [Function.comp]
  split <;> rfl
set_option maxRecDepth 100000 in
theorem setp_perm {A R : List Tg} {t : Tg} (p : Nat) (hp : A.Perm (t :: R)) (hn : ∀ u ∈ R, t.b ≠ u.b) : (setp t.b p A).Perm ({ t with p := p } :: R) := by
  have h := hp.map (fun u => if u.b = t.b then { u with p := p } else u)
  rw [List.map_cons, if_pos rfl] at h
  refine h.trans (List.Perm.cons _ ?_)
  have e : R.map (fun u => if u.b = t.b then { u with p := p } else u) = R := by
    conv => rhs; rw [← List.map_id R]
    refine List.map_congr_left fun u hu => ?_
    rw [if_neg (Ne.symm (hn u hu))]; rfl
  rw [e]
set_option maxRecDepth 100000 in
theorem mem_perm {α : Type} {A : List α} {t : α} (h : t ∈ A) : ∃ R, A.Perm (t :: R) := by
  obtain ⟨A1, A2, rfl⟩ := List.append_of_mem h
  exact ⟨A1 ++ A2, List.perm_middle⟩
abbrev gbx (gb : Nat) (sd : Int) (va mi : Value) (mc : Nat) : As := boxA gb [iv sd, va, mi, .map (some mc)] 103
set_option maxRecDepth 100000 in
theorem enter_c (w0 W : World) (l : List As) (gb mc : Nat) (sd : Int) (va mi : Value) (A : List Tg) (C : List Cl) (t : Tg) (ht : t ∈ A) (hs : 1 ≤ sd ∧ sd ≤ 1099511627776) (hx : I64 t.x) (hy : I64 t.y) (hj : Jok sd A C (some t.b)) (hn : A.length * 8 ≤ 140737488355328)
    (h : Sep w0 W (gbx gb sd va mi mc :: mapA cellsM mc C.length (clf C) :: (A.map tgA ++ (C.map clA ++ l)))) :
    Calls Tryz.prog 76 #[pt gb, pt t.b] W fun e W' => e = .returned (.tuple #[]) ∧ ∃ A' C', A'.map core = A.map core ∧ Jok sd A' C' none ∧ Sep w0 W' (gbx gb sd va mi mc :: mapA cellsM mc C'.length (clf C') :: (A'.map tgA ++ (C'.map clA ++ l))) := by
  obtain ⟨R, hA⟩ := mem_perm ht
  have hj1 := hj.perm hA (List.Perm.refl C)
  have hbn := (List.pairwise_cons.1 hj1.bd).1
  have S1 : Sep w0 W ([gbx gb sd va mi mc, mapA cellsM mc C.length (clf C), tgA t] ++ (R.map tgA ++ (C.map clA ++ l))) := Sep.permM [_, _] hA h
  have S2 : Sep w0 W ([gbx gb sd va mi mc, mapA cellsM mc C.length (clf C), tgA t] ++ (C.map clA ++ (R.map tgA ++ l))) := by
    refine S1.perm (List.Perm.append_left _ ?_)
    exact pm3 _ _ _
  have hfew := hj.few
  have fin : ∀ (W' : World) (p m2 : Nat) (c' : Cl) (D : List Cl) (f' : Int × Int → Option Sl), m2 = (c' :: D).length → f' = clf (c' :: D) → Jok sd ({ t with p := p } :: R) (c' :: D) none →
      Sep w0 W' (gbx gb sd va mi mc :: mapA cellsM mc m2 f' :: clA c' :: tgA { t with p := p } :: (D.map clA ++ (R.map tgA ++ l))) →
      ∃ A' C', A'.map core = A.map core ∧ Jok sd A' C' none ∧ Sep w0 W' (gbx gb sd va mi mc :: mapA cellsM mc C'.length (clf C') :: (A'.map tgA ++ (C'.map clA ++ l))) := by
    intro W' p m2 c' D f' e1 e2 hJ S
    subst e1 e2
    have hp := setp_perm (t := t) p hA hbn
    refine ⟨setp t.b p A, c' :: D, setp_core _ _ _, hJ.perm hp.symm (List.Perm.refl _), ?_⟩
    refine Sep.permM [_, _] hp.symm ?_
    have S3 : Sep w0 W' ([gbx gb sd va mi mc, mapA cellsM mc (c' :: D).length (clf (c' :: D)), tgA { t with p := p }] ++ ((c' :: D).map clA ++ (R.map tgA ++ l))) := by
      refine S.perm ?_
      exact (((List.Perm.swap _ _ _).cons _).cons _)
    refine S3.perm (List.Perm.append_left _ ?_)
    exact pm3 _ _ _
  by_cases hex : ∃ c ∈ C, c.k = cel sd t
  · obtain ⟨c, hc, hk⟩ := hex
    obtain ⟨D, hC⟩ := mem_perm hc
    have hj2 := hj1.perm (List.Perm.refl _) hC
    rw [clf_perm hj.kd hC, hC.length_eq] at S2
    have S3 : Sep w0 W ([gbx gb sd va mi mc, mapA cellsM mc (c :: D).length (clf (c :: D)), tgA t, clA c] ++ (D.map clA ++ (R.map tgA ++ l))) := Sep.permM [_, _, _] hC S2
    have S4 : Sep w0 W (gbx gb sd va mi mc :: mapA cellsM mc (c :: D).length (clf (c :: D)) :: rowV 119 1 (sl c.g c.L.length c.c) c.L.length (c.L.map pt) :: boxA t.b [iv t.id, iv t.x, iv t.y, iv t.s, iv t.p] 122 :: (D.map clA ++ (R.map tgA ++ l))) := by
      refine S3.perm ?_
      exact (((List.Perm.swap _ _ _).cons _).cons _)
    have hk2 : clf (c :: D) (t.x / sd, t.y / sd) = some (clS c) := by
      rw [clf_cons, if_pos (show c.k = (t.x / sd, t.y / sd) from hk)]
    have hcl := hj.cellLen hc
    have hlen : c.L.length + 1 ≤ A.length := by
      have h1 := hj2.sz
      rw [lens_cons] at h1
      rw [if_neg nofun, ← hA.length_eq] at h1
      omega
    refine (enter_w w0 W _ gb mc (c :: D).length t.b c.L.length sd t.x t.y va mi (sl c.g c.L.length c.c) (iv t.id) (iv t.s) (iv t.p) (c.L.map pt) (clf (c :: D)) hs hx hy (by rw [hk2]; rfl) (by omega) (by rw [← hC.length_eq]; omega) (c :: D).length (by rw [hk2]; rfl) S4).mono ?_
    rintro e W' ⟨g, q, rfl, S5⟩
    refine ⟨rfl, fin W' c.L.length _ ⟨c.k, g, q, c.L ++ [t.b]⟩ D (upd (clf (c :: D)) (t.x / sd, t.y / sd) (some (g + 1, c.L.length + 1, q))) rfl ?_ (hj2.enter hk rfl rfl rfl rfl rfl) ?_⟩
    · have e := clf_upd (c := c) (c' := ⟨c.k, g, q, c.L ++ [t.b]⟩) (D := D) rfl
      rw [← e]
      have hk3 : c.k = (t.x / sd, t.y / sd) := hk
      rw [hk3]
      simp [clS]
    · simp only [clA, List.map_append, List.map_cons, List.map_nil, List.length_append, List.length_cons, List.length_nil, Nat.zero_add]
      exact S5
  · have hno : ∀ c ∈ C, c.k ≠ cel sd t := fun c hc e => hex ⟨c, hc, e⟩
    have hk2 : clf C (t.x / sd, t.y / sd) = none := clf_none hno
    have S4 : Sep w0 W (gbx gb sd va mi mc :: mapA cellsM mc C.length (clf C) :: rowV 119 1 (.slice none 0 0) 0 [] :: boxA t.b [iv t.id, iv t.x, iv t.y, iv t.s, iv t.p] 122 :: (C.map clA ++ (R.map tgA ++ l))) := bk1 [_, _] (S2.nilV 119 1)
    refine (enter_w w0 W _ gb mc C.length t.b 0 sd t.x t.y va mi (.slice none 0 0) (iv t.id) (iv t.s) (iv t.p) [] (clf C) hs hx hy (by rw [hk2]; rfl) (by omega) (by omega) (C.length + 1) (by rw [hk2]; rfl) S4).mono ?_
    rintro e W' ⟨g, q, rfl, S5⟩
    refine ⟨rfl, fin W' 0 _ ⟨cel sd t, g, q, [t.b]⟩ C (upd (clf C) (t.x / sd, t.y / sd) (some (g + 1, 1, q))) rfl ?_ (hj1.enterNew hno rfl rfl rfl rfl rfl) ?_⟩
    · rw [← clf_new]; rfl
    · exact S5
set_option maxRecDepth 100000 in
theorem leave_c (w0 W : World) (l : List As) (gb mc : Nat) (sd : Int) (va mi : Value) (A : List Tg) (C : List Cl) (t : Tg) (ht : t ∈ A) (hs : 1 ≤ sd ∧ sd ≤ 1099511627776) (hx : I64 t.x) (hy : I64 t.y) (hj : Jok sd A C none) (hn : A.length * 8 ≤ 140737488355328)
    (h : Sep w0 W (gbx gb sd va mi mc :: mapA cellsM mc C.length (clf C) :: (A.map tgA ++ (C.map clA ++ l)))) :
    Calls Tryz.prog 75 #[pt gb, pt t.b] W fun e W' => e = .returned (.tuple #[]) ∧ ∃ A' C', A'.map core = A.map core ∧ Jok sd A' C' (some t.b) ∧ Sep w0 W' (gbx gb sd va mi mc :: mapA cellsM mc C'.length (clf C') :: (A'.map tgA ++ (C'.map clA ++ l))) := by
  obtain ⟨c, hc, hk, hl⟩ := hj.to t ht nofun
  obtain ⟨D, hC⟩ := mem_perm hc
  obtain ⟨R, hA⟩ := mem_perm ht
  have hcl := hj.cellLen hc
  have hfew := hj.few
  have hlt := (List.getElem?_eq_some_iff.1 hl).1
  obtain ⟨m, hm⟩ : ∃ m, c.L.length = m + 1 := ⟨c.L.length - 1, by omega⟩
  obtain ⟨ub, hub⟩ : ∃ ub, c.L[m]? = some ub := ⟨_, List.getElem?_eq_getElem (by omega)⟩
  obtain ⟨u, hu, hu1, hu2, hu3, _⟩ := hj.fro c hc m ub hub
  subst hu1
  have hj2 := hj.perm hA hC
  have hk3 : c.k = (t.x / sd, t.y / sd) := hk
  have hk2 : clf (c :: D) (t.x / sd, t.y / sd) = some (clS c) := by
    rw [clf_cons, if_pos (show c.k = (t.x / sd, t.y / sd) from hk)]
  have hfn : clf C = clf (c :: D) := clf_perm hj.kd hC
  have hln : C.length = (c :: D).length := hC.length_eq
  rw [hfn, hln] at h
  have hdn : ∀ d ∈ D, d.k ≠ c.k := fun d hd => ((List.pairwise_cons.1 hj2.kd).1 d hd).symm
  have S0 : Sep w0 W ([gbx gb sd va mi mc, mapA cellsM mc (c :: D).length (clf (c :: D))] ++ ((c :: D).map clA ++ (A.map tgA ++ l))) := by
    have h2 : Sep w0 W ([gbx gb sd va mi mc, mapA cellsM mc (c :: D).length (clf (c :: D))] ++ (C.map clA ++ (A.map tgA ++ l))) := by
      refine h.perm (List.Perm.append_left [_, _] ?_)
      exact pm3 _ _ _
    exact Sep.permM [_, _] hC h2
  -- back to where the things stand first
  have fin : ∀ (W' : World) (A' : List Tg) (C' : List Cl) (m2 : Nat) (f' : Int × Int → Option Sl), m2 = C'.length → f' = clf C' → A'.map core = A.map core → Jok sd A' C' (some t.b) →
      Sep w0 W' ([gbx gb sd va mi mc, mapA cellsM mc m2 f'] ++ (C'.map clA ++ (A'.map tgA ++ l))) →
      ∃ A' C', A'.map core = A.map core ∧ Jok sd A' C' (some t.b) ∧ Sep w0 W' (gbx gb sd va mi mc :: mapA cellsM mc C'.length (clf C') :: (A'.map tgA ++ (C'.map clA ++ l))) := by
    intro W' A' C' m2 f' e1 e2 hco hJ S
    subst e1 e2
    refine ⟨A', C', hco, hJ, ?_⟩
    refine S.perm (List.Perm.append_left [_, _] ?_)
    exact pm3 _ _ _
  by_cases hut : u.b = t.b
  · have e := hj.uniq hu ht hut
    subst e
    have hpm : u.p = m := hu2
    have S1 : Sep w0 W (gbx gb sd va mi mc :: mapA cellsM mc (c :: D).length (clf (c :: D)) :: ([rowV 119 1 (sl c.g (m + 1) c.c) (m + 1) (c.L.map pt), boxA u.b [iv u.id, iv u.x, iv u.y, iv u.s, iv m] 122] ++ (D.map clA ++ (R.map tgA ++ l)))) := by
      have S2 : Sep w0 W ([gbx gb sd va mi mc, mapA cellsM mc (c :: D).length (clf (c :: D)), clA c] ++ (D.map clA ++ (A.map tgA ++ l))) := S0
      have S3 : Sep w0 W (([gbx gb sd va mi mc, mapA cellsM mc (c :: D).length (clf (c :: D)), clA c] ++ D.map clA) ++ ((u :: R).map tgA ++ l)) := Sep.permM _ hA (by rw [List.append_assoc]; exact S2)
      rw [List.append_assoc] at S3
      have S4 : Sep w0 W ([gbx gb sd va mi mc, mapA cellsM mc (c :: D).length (clf (c :: D)), clA c] ++ (tgA u :: (D.map clA ++ (R.map tgA ++ l)))) := by
        refine S3.perm (List.Perm.append_left _ ?_)
        exact List.perm_middle
      rw [← hm, ← hpm]
      exact S4
    have eset : ((c.L.map pt).set m (pt u.b)).take m = (c.L.take m).map pt := by
      rw [List.take_set_of_le (Nat.le_refl _), List.map_take]
    have back : ∀ (W' : World) (f' : Int × Int → Option Sl) (m2 : Nat) (r : As), Sep w0 W' (gbx gb sd va mi mc :: mapA cellsM mc m2 f' :: ([r, boxA u.b [iv u.id, iv u.x, iv u.y, iv u.s, iv m] 122] ++ (D.map clA ++ (R.map tgA ++ l)))) →
        Sep w0 W' ([gbx gb sd va mi mc, mapA cellsM mc m2 f'] ++ (r :: (D.map clA ++ (A.map tgA ++ l)))) := by
      intro W' f' m2 r S
      have S4 : Sep w0 W' ([gbx gb sd va mi mc, mapA cellsM mc m2 f', r] ++ (D.map clA ++ ((u :: R).map tgA ++ l))) := by
        have e : tgA u = boxA u.b [iv u.id, iv u.x, iv u.y, iv u.s, iv m] 122 := by unfold tgA; rw [hpm]
        rw [List.map_cons, e]
        refine S.perm ?_
        refine List.Perm.append_left [_, _, _] ?_
        exact (List.perm_middle (l₁ := D.map clA) (l₂ := R.map tgA ++ l)).symm
      have S5 : Sep w0 W' (([gbx gb sd va mi mc, mapA cellsM mc m2 f', r] ++ D.map clA) ++ (A.map tgA ++ l)) := Sep.permM _ hA.symm (by rw [List.append_assoc]; exact S4)
      rw [List.append_assoc] at S5
      exact S5
    have hxm : (c.L.map pt)[m]? = some (pt u.b) := by rw [List.getElem?_map, hub]; rfl
    have hD : ∀ (w0 W : World) (l : List As), Sep w0 W ([rowV 119 1 (sl c.g (m + 1) c.c) (m + 1) (c.L.map pt), boxA u.b [iv u.id, iv u.x, iv u.y, iv u.s, iv m] 122] ++ l) → Calls Tryz.prog 86 #[sl c.g (m + 1) c.c, iv 1, pt u.b] W fun e W' => e = .returned (sl c.g m c.c) ∧ Sep w0 W' ([rowV 119 1 (sl c.g m c.c) m ((c.L.take m).map pt), boxA u.b [iv u.id, iv u.x, iv u.y, iv u.s, iv m] 122] ++ l) := by
      intro w0 W l hS
      have := dropL1 w0 W l c.g m c.c m (c.L.map pt) u.b (iv u.id) (iv u.x) (iv u.y) (iv u.s) rfl (by omega) hxm hS
      rw [eset] at this
      exact this
    have hvv : cellsM.ev ((clf (c :: D) (u.x / sd, u.y / sd)).getD cellsM.z) = sl c.g (m + 1) c.c := by rw [hk2, ← hm]; rfl
    by_cases hm0 : 0 < m
    · refine (leave_some w0 W _ _ _ gb mc (c :: D).length u.b c.g m c.c sd u.x u.y va mi _ (iv u.id) (iv u.s) (iv m) (clf (c :: D)) hs hx hy hvv hm0 (by omega) (c :: D).length (by rw [hk2]; rfl) hD (List.mem_cons_of_mem _ (List.mem_cons_self ..)) S1).mono ?_
      rintro e W' ⟨rfl, S5⟩
      have hlm : (c.L.take m).length = m := by rw [List.length_take]; omega
      refine ⟨rfl, fin W' A (⟨c.k, c.g, c.c, c.L.take m⟩ :: D) _ (upd (clf (c :: D)) (u.x / sd, u.y / sd) (some (c.g + 1, m, c.c))) rfl ?_ rfl ?_ (?_)⟩
      · have e := clf_upd (c := c) (c' := ⟨c.k, c.g, c.c, c.L.take m⟩) (D := D) rfl
        rw [← e, hk3]
        simp only [clS, hlm]
      · refine (hj2.leaveLast (c' := ⟨c.k, c.g, c.c, c.L.take m⟩) hk (by rw [hpm, hm]) hl rfl (by rw [hpm]) ?_).perm hA.symm (List.Perm.refl _)
        intro e
        have e2 : (c.L.take m).length = 0 := by rw [show c.L.take m = [] from e]; rfl
        omega
      · have := back _ _ _ _ S5
        simp only [List.map_cons, clA, hlm]
        exact this
    · have hm00 : m = 0 := by omega
      subst hm00
      refine (leave_none w0 W _ _ _ gb mc (c :: D).length u.b c.g 0 c.c sd u.x u.y va mi _ (iv u.id) (iv u.s) (iv (0 : Nat)) (clf (c :: D)) hs hx hy hvv rfl (by omega) D.length (by rw [hk2]; rfl) hD (List.mem_cons_of_mem _ (List.mem_cons_self ..)) S1).mono ?_
      rintro e W' ⟨rfl, S5⟩
      refine ⟨rfl, fin W' A D _ (upd (clf (c :: D)) (u.x / sd, u.y / sd) none) rfl ?_ rfl ?_ ?_⟩
      · have e := clf_del hdn
        rw [← e, hk3]
      · exact (hj2.leaveOnly hk (by omega) hl).perm hA.symm (List.Perm.refl _)
      · exact (fr1 [_, _] (back _ _ _ _ S5)).tail
  · -- another one comes to stand there
    have huR : u ∈ R := by
      rcases List.mem_cons.1 (hA.mem_iff.1 hu) with rfl | q
      · exact absurd rfl hut
      · exact q
    obtain ⟨R0, hR⟩ := mem_perm huR
    have hA2 : A.Perm (t :: u :: R0) := hA.trans (hR.cons t)
    have hA3 : A.Perm (u :: t :: R0) := hA2.trans (List.Perm.swap _ _ _)
    have hj3 := hj.perm hA2 hC
    have hup : u.p = m := hu2
    have hpt : t.p < m := by
      have : t.p ≠ m := fun e => by
        rw [e, hub] at hl
        exact hut (Option.some.inj hl)
      omega
    have hb3 := (List.pairwise_cons.1 (hj.perm hA3 hC).bd).1
    have S1 : Sep w0 W (gbx gb sd va mi mc :: mapA cellsM mc (c :: D).length (clf (c :: D)) :: ([rowV 119 1 (sl c.g (m + 1) c.c) (m + 1) (c.L.map pt), boxA t.b [iv t.id, iv t.x, iv t.y, iv t.s, iv t.p] 122, boxA u.b [iv u.id, iv u.x, iv u.y, iv u.s, iv u.p] 122] ++ (D.map clA ++ (R0.map tgA ++ l)))) := by
      have S2 : Sep w0 W ([gbx gb sd va mi mc, mapA cellsM mc (c :: D).length (clf (c :: D)), clA c] ++ (D.map clA ++ (A.map tgA ++ l))) := S0
      have S3 : Sep w0 W (([gbx gb sd va mi mc, mapA cellsM mc (c :: D).length (clf (c :: D)), clA c] ++ D.map clA) ++ ((t :: u :: R0).map tgA ++ l)) := Sep.permM _ hA2 (by rw [List.append_assoc]; exact S2)
      rw [List.append_assoc] at S3
      have S4 : Sep w0 W ([gbx gb sd va mi mc, mapA cellsM mc (c :: D).length (clf (c :: D)), clA c] ++ (tgA t :: tgA u :: (D.map clA ++ (R0.map tgA ++ l)))) := by
        refine S3.perm (List.Perm.append_left _ ?_)
        exact List.perm_middle.trans (List.perm_middle.cons _)
      rw [← hm]
      exact S4
    have hxm : (c.L.map pt)[m]? = some (pt u.b) := by rw [List.getElem?_map, hub]; rfl
    have eset : ((c.L.map pt).set t.p (pt u.b)).take m = ((c.L.set t.p u.b).take m).map pt := by
      rw [List.map_take, List.map_set]
    have hD : ∀ (w0 W : World) (l : List As), Sep w0 W ([rowV 119 1 (sl c.g (m + 1) c.c) (m + 1) (c.L.map pt), boxA t.b [iv t.id, iv t.x, iv t.y, iv t.s, iv t.p] 122, boxA u.b [iv u.id, iv u.x, iv u.y, iv u.s, iv u.p] 122] ++ l) → Calls Tryz.prog 86 #[sl c.g (m + 1) c.c, iv 1, pt t.b] W fun e W' => e = .returned (sl c.g m c.c) ∧ Sep w0 W' ([rowV 119 1 (sl c.g m c.c) m (((c.L.set t.p u.b).take m).map pt), boxA t.b [iv t.id, iv t.x, iv t.y, iv t.s, iv t.p] 122, boxA u.b [iv u.id, iv u.x, iv u.y, iv u.s, iv t.p] 122] ++ l) := by
      intro w0 W l hS
      have := dropM1 w0 W l c.g m c.c t.p (c.L.map pt) t.b u.b (iv t.id) (iv t.x) (iv t.y) (iv t.s) (iv u.id) (iv u.x) (iv u.y) (iv u.s) (iv u.p) hpt (by omega) hxm hS
      rw [eset] at this
      exact this
    have hvv : cellsM.ev ((clf (c :: D) (t.x / sd, t.y / sd)).getD cellsM.z) = sl c.g (m + 1) c.c := by rw [hk2, ← hm]; rfl
    obtain ⟨hJ, hne⟩ := hj3.leaveMid (u' := { u with p := t.p }) (c' := ⟨c.k, c.g, c.c, (c.L.set t.p u.b).take u.p⟩) hk hl (by rw [hup]; exact hub) (by rw [hup, hm]) (Ne.symm hut) rfl rfl rfl rfl rfl
    rw [hup] at hJ hne
    refine (leave_some w0 W _ _ _ gb mc (c :: D).length t.b c.g m c.c sd t.x t.y va mi _ (iv t.id) (iv t.s) (iv t.p) (clf (c :: D)) hs hx hy hvv (by omega) (by omega) (c :: D).length (by rw [hk2]; rfl) hD (List.mem_cons_of_mem _ (List.mem_cons_self ..)) S1).mono ?_
    rintro e W' ⟨rfl, S5⟩
    have hlm : ((c.L.set t.p u.b).take m).length = m := by rw [List.length_take, List.length_set]; omega
    have hsp := setp_perm (t := u) t.p hA3 hb3
    refine ⟨rfl, fin W' (setp u.b t.p A) (⟨c.k, c.g, c.c, (c.L.set t.p u.b).take m⟩ :: D) _ (upd (clf (c :: D)) (t.x / sd, t.y / sd) (some (c.g + 1, m, c.c))) rfl ?_ (setp_core _ _ _) (hJ.perm ((List.Perm.swap _ _ _).trans hsp.symm) (List.Perm.refl _)) ?_⟩
    · have e := clf_upd (c := c) (c' := ⟨c.k, c.g, c.c, (c.L.set t.p u.b).take m⟩) (D := D) rfl
      rw [← e, hk3]
      simp only [clS, hlm]
    · have S4 : Sep w0 W' ([gbx gb sd va mi mc, mapA cellsM mc (c :: D).length (upd (clf (c :: D)) (t.x / sd, t.y / sd) (some (c.g + 1, m, c.c))), rowV 119 1 (sl c.g m c.c) m (((c.L.set t.p u.b).take m).map pt)] ++ (D.map clA ++ (({ u with p := t.p } :: t :: R0).map tgA ++ l))) := by
        refine S5.perm ?_
        refine List.Perm.append_left [_, _, _] ?_
        refine (List.Perm.swap _ _ _).trans ?_
        exact (((List.perm_middle (l₁ := D.map clA) (l₂ := R0.map tgA ++ l)).symm).cons _).trans (List.perm_middle (l₁ := D.map clA)).symm
      have S6 := Sep.permM ([gbx gb sd va mi mc, mapA cellsM mc (c :: D).length (upd (clf (c :: D)) (t.x / sd, t.y / sd) (some (c.g + 1, m, c.c))), rowV 119 1 (sl c.g m c.c) m (((c.L.set t.p u.b).take m).map pt)] ++ D.map clA) hsp.symm (by rw [List.append_assoc]; exact S4)
      rw [List.append_assoc] at S6
      simp only [List.map_cons, clA, hlm]
      exact S6
end Go.Proofs.YtgedlabmndlooaaGreat

namespace Go.Proofs.YtgedlabmndlooaaGreat
open Go Go.RowKit

set_option maxRecDepth 100000 in
theorem idf_cons (t : Tg) (R : List Tg) (k : Int) : idf (t :: R) k = if t.id = k then some (t.b + 1) else idf R k := by
  unfold idf
  rw [List.find?_cons]
  by_cases h : t.id = k
  · simp [h]
  · simp [h]
set_option maxRecDepth 100000 in
theorem idf_none {A : List Tg} {k : Int} (h : ∀ t ∈ A, t.id ≠ k) : idf A k = none := by
  induction A with
  | nil => rfl
  | cons c D ih =>
    rw [idf_cons, if_neg (h c (List.mem_cons_self ..)), ih (fun d hd => h d (List.mem_cons_of_mem _ hd))]
set_option maxRecDepth 100000 in
theorem idf_mem {A : List Tg} (hk : A.Pairwise (fun a b => a.id ≠ b.id)) {t : Tg} (ht : t ∈ A) : idf A t.id = some (t.b + 1) := by
  induction A with
  | nil => cases ht
  | cons d D ih =>
    obtain ⟨h1, h2⟩ := List.pairwise_cons.1 hk
    rw [idf_cons]
    rcases List.mem_cons.1 ht with rfl | ht
    · simp
    · rw [if_neg (h1 t ht), ih h2 ht]
set_option maxRecDepth 100000 in
theorem idf_perm {A A' : List Tg} (hk : A.Pairwise (fun a b => a.id ≠ b.id)) (hp : A.Perm A') : idf A = idf A' := by
  funext k
  by_cases h : ∃ c ∈ A, c.id = k
  · obtain ⟨c, hc, rfl⟩ := h
    rw [idf_mem hk hc, idf_mem ((hp.pairwise_iff (fun {_ _} q => Ne.symm q)).1 hk) (hp.mem_iff.1 hc)]
  · rw [idf_none (fun c hc e => h ⟨c, hc, e⟩), idf_none (fun c hc e => h ⟨c, hp.mem_iff.2 hc, e⟩)]
set_option maxRecDepth 100000 in
theorem idf_core {A A' : List Tg} (h : A'.map core = A.map core) : idf A' = idf A := by
  have e : ∀ B : List Tg, idf (B.map core) = idf B := by
    intro B
    induction B with
    | nil => rfl
    | cons t R ih =>
      funext k
      rw [List.map_cons, idf_cons, idf_cons, ih]; rfl
  rw [← e A', h, e A]
set_option maxRecDepth 100000 in
theorem idf_del {t : Tg} {R : List Tg} (h : ∀ u ∈ R, u.id ≠ t.id) : upd (idf (t :: R)) t.id none = idf R := by
  funext k
  by_cases e : k = t.id
  · subst e
    rw [upd_same, idf_none h]
  · rw [upd_other _ _ e, idf_cons, if_neg (Ne.symm e)]
set_option maxRecDepth 100000 in
theorem idf_new {t : Tg} {R : List Tg} : upd (idf R) t.id (some (t.b + 1)) = idf (t :: R) := by
  funext k
  rw [idf_cons]
  by_cases e : t.id = k
  · rw [if_pos e, ← e, upd_same]
  · rw [if_neg e, upd_other _ _ (Ne.symm e)]
/-- a grid that holds M, and how it lies -/
structure Gok (sd : Int) (A : List Tg) (C : List Cl) (M : List Pl) : Prop where
  hs : 1 ≤ sd ∧ sd ≤ 1099511627776
  j : Jok sd A C none
  st : ∀ (i : Nat) (t : Tg), A[i]? = some t → t.s = i
  rg : ∀ t ∈ A, I64 t.id ∧ I64 t.x ∧ I64 t.y
  con : (A.map plOf).Perm M
  srt : Srt M
set_option maxRecDepth 100000 in
theorem Gok.idd {sd : Int} {A : List Tg} {C : List Cl} {M : List Pl} (h : Gok sd A C M) : A.Pairwise (fun a b => a.id ≠ b.id) := by
  have h1 := (h.con.pairwise_iff (R := fun a b : Pl => a.id ≠ b.id) (fun {_ _} q => Ne.symm q)).2 h.srt.ne
  exact (List.pairwise_map.1 h1).imp (fun q => q)
set_option maxRecDepth 100000 in
theorem Gok.len {sd : Int} {A : List Tg} {C : List Cl} {M : List Pl} (h : Gok sd A C M) : A.length = M.length := by
  rw [← h.con.length_eq, List.length_map]
set_option maxRecDepth 100000 in
theorem Gok.look {sd : Int} {A : List Tg} {C : List Cl} {M : List Pl} (h : Gok sd A C M) (k : Int) : (look M k = none ∧ idf A k = none ∧ ∀ t ∈ A, t.id ≠ k) ∨ ∃ t ∈ A, t.id = k ∧ look M k = some (plOf t) ∧ idf A k = some (t.b + 1) := by
  by_cases hx : ∃ t ∈ A, t.id = k
  · obtain ⟨t, ht, rfl⟩ := hx
    refine .inr ⟨t, ht, rfl, look_of (x := plOf t) h.srt.ne (h.con.mem_iff.1 (List.mem_map_of_mem ht)), idf_mem h.idd ht⟩
  · have hn : ∀ t ∈ A, t.id ≠ k := fun t ht e => hx ⟨t, ht, e⟩
    refine .inl ⟨look_none.2 fun x hxm => ?_, idf_none hn, hn⟩
    obtain ⟨t, ht, rfl⟩ := List.mem_map.1 (h.con.mem_iff.2 hxm)
    exact hn t ht
abbrev gOpen (gb : Nat) (sd : Int) (va : Value) (mi mc : Nat) (A : List Tg) (C : List Cl) (l : List As) : List As :=
  gbx gb sd va (.map (some mi)) mc :: mapA cellsM mc C.length (clf C) :: (A.map tgA ++ (C.map clA ++ (mapA idsM mi A.length (idf A) :: rowV 119 1 va A.length (A.map (fun t => pt t.b)) :: l)))
def gridA (gb : Nat) (sd : Int) (M : List Pl) : As := exA (fun x : Value × Nat × Nat × List Tg × List Cl => pureA (Gok sd x.2.2.2.1 x.2.2.2.2 M) :: gOpen gb sd x.1 x.2.1 x.2.2.1 x.2.2.2.1 x.2.2.2.2 [])
set_option maxRecDepth 100000 in
theorem gOpen_app (gb : Nat) (sd : Int) (va : Value) (mi mc : Nat) (A : List Tg) (C : List Cl) (l : List As) : gOpen gb sd va mi mc A C [] ++ l = gOpen gb sd va mi mc A C l := by
  simp only [gOpen, List.cons_append, List.append_assoc, List.nil_append]
set_option maxRecDepth 100000 in
theorem grid_open {w0 W : World} {l : List As} {gb : Nat} {sd : Int} {M : List Pl} (h : Sep w0 W (gridA gb sd M :: l)) : ∃ va mi mc A C, Gok sd A C M ∧ Sep w0 W (gOpen gb sd va mi mc A C l) := by
  obtain ⟨⟨va, mi, mc, A, C⟩, h1⟩ := h.opn
  refine ⟨va, mi, mc, A, C, h1.fact k0m, ?_⟩
  have h2 := h1.tail
  rw [← gOpen_app]
  exact h2
set_option maxRecDepth 100000 in
theorem grid_shut {w0 W : World} {l : List As} {gb : Nat} {sd : Int} {M : List Pl} {va : Value} {mi mc : Nat} {A : List Tg} {C : List Cl} (g : Gok sd A C M) (h : Sep w0 W (gOpen gb sd va mi mc A C l)) : Sep w0 W (gridA gb sd M :: l) := by
  refine Sep.cls (fun x : Value × Nat × Nat × List Tg × List Cl => pureA (Gok sd x.2.2.2.1 x.2.2.2.2 M) :: gOpen gb sd x.1 x.2.1 x.2.2.1 x.2.2.2.1 x.2.2.2.2 []) (va, mi, mc, A, C) ?_
  rw [← gOpen_app] at h
  exact h.know g
section
variable {gb : Nat} {sd : Int} {va : Value} {mi mc : Nat} {A : List Tg} {C : List Cl} {l : List As}
set_option maxRecDepth 100000 in
theorem m_ids : mapA idsM mi A.length (idf A) ∈ gOpen gb sd va mi mc A C l := List.mem_cons_of_mem _ (List.mem_cons_of_mem _ (List.mem_append_right _ (List.mem_append_right _ (List.mem_cons_self ..))))
set_option maxRecDepth 100000 in
theorem m_all : rowV 119 1 va A.length (A.map (fun t => pt t.b)) ∈ gOpen gb sd va mi mc A C l := List.mem_cons_of_mem _ (List.mem_cons_of_mem _ (List.mem_append_right _ (List.mem_append_right _ (List.mem_cons_of_mem _ (List.mem_cons_self ..)))))
set_option maxRecDepth 100000 in
theorem m_tg {t : Tg} (h : t ∈ A) : tgA t ∈ gOpen gb sd va mi mc A C l := List.mem_cons_of_mem _ (List.mem_cons_of_mem _ (List.mem_append_left _ (List.mem_map_of_mem h)))
set_option maxRecDepth 100000 in
theorem m_cl {c : Cl} (h : c ∈ C) : clA c ∈ gOpen gb sd va mi mc A C l := List.mem_cons_of_mem _ (List.mem_cons_of_mem _ (List.mem_append_right _ (List.mem_append_left _ (List.mem_map_of_mem h))))
end
set_option maxRecDepth 100000 in
theorem Gok.nil (sd : Int) (hs : 1 ≤ sd ∧ sd ≤ 1099511627776) : Gok sd [] [] [] := ⟨hs, Jok.nil sd, (fun i t h => by simp at h), (fun t h => by cases h), List.Perm.refl _, List.Pairwise.nil⟩

set_option maxRecDepth 100000 in
theorem results_ct {fn : Func} {p q : Tmp} {ty : TypeId} (h : fn.results = #[.cell p ty, .tmp q]) (tmps : Array Value) (P : Program) (w : World) :
    (results fn tmps).run P w = ((asAddr (tmps.getD p undef)).run P w).andThen fun a w₁ => ((loadVar ty a).run P w₁).andThen fun v w₂ => .ok (.tuple #[v, tmps.getD q undef]) w₂ := by
  simp only [results, h]
  simp [Sem.run_bind, Result.andThen]
set_option maxRecDepth 100000 in
theorem ret_ct {P : Program} {fn : Func} {R : Ending → World → Prop} {a : Act} {w : World} {p q : Tmp} {ty t : TypeId} {b : Nat} {cs : List Value} {d : TypeDesc}
    (hr : fn.results = #[.cell p ty, .tmp q]) (hp : a.tmps.getD p undef = .pointer (some ⟨b, 0, none⟩)) (hh : Has w b cs t) (hu : P.underlying ty = some d) (hd : d.isRow = true)
    (hi : (P.info? ty).map (·.size) = some cs.length) (hdf : a.defers = []) (h : R (.returned (.tuple #[.agg cs.toArray, a.tmps.getD q undef])) w) : bodyPost P fn R .ret a w := by
  refine bodyPost_ret (v := .tuple #[.agg cs.toArray, a.tmps.getD q undef]) ?_ hdf h
  rw [results_ct hr, hp]
  simp [asAddr, Result.andThen, run_loadVar_mid w b 0 ty cs d hh.range hu hd hi]
/-- what At answers -/
def atX (M : List Pl) (k : Int) : Int := match look M k with | some p => p.x | none => 0
def atY (M : List Pl) (k : Int) : Int := match look M k with | some p => p.y | none => 0
def atB (M : List Pl) (k : Int) : Bool := (look M k).isSome
set_option maxHeartbeats 2000000 in
theorem new_no (W : World) (sd : Int) (hs : sd < 1 ∨ 1099511627776 < sd) :
    Calls Tryz.prog 45 #[iv sd] W fun e W' => e = .returned (.tuple #[.pointer none, iv 110]) ∧ W' = W := by
  by_cases h1 : sd < 1
  · clear hs
    go_enter Tryz.func45, Tryz.ntmps45
    go_wp2_with fail
    go_ret2
    exact ⟨rfl, rfl⟩
  · have h2 : 1099511627776 < sd := by omega
    clear hs
    go_enter Tryz.func45, Tryz.ntmps45
    go_wp2_with fail
    go_ret2
    exact ⟨rfl, rfl⟩
set_option maxHeartbeats 2000000 in
theorem new_c (w0 W : World) (l : List As) (sd : Int) (hs : 1 ≤ sd ∧ sd ≤ 1099511627776) (h : Sep w0 W l) :
    Calls Tryz.prog 45 #[iv sd] W fun e W' => ∃ gb, e = .returned (.tuple #[pt gb, iv 0]) ∧ Sep w0 W' (gridA gb sd [] :: l) := by
  have S1 := h.mapNew idsM
  obtain ⟨W1, hW1⟩ : ∃ W1, W.alloc (.map #[] 0) = W1 := ⟨_, rfl⟩
  obtain ⟨mi, hmi⟩ : ∃ b, W.heap.size = b := ⟨_, rfl⟩
  rw [hW1, hmi] at S1
  have S2 := S1.mapNew cellsM
  obtain ⟨W2, hW2⟩ : ∃ W2, W1.alloc (.map #[] 0) = W2 := ⟨_, rfl⟩
  obtain ⟨mc, hmc⟩ : ∃ b, W1.heap.size = b := ⟨_, rfl⟩
  rw [hW2, hmc] at S2
  have S3 := S2.newBox #[iv sd, .slice none 0 0, .map (some mi), .map (some mc)] 103
  obtain ⟨W3, hW3⟩ : ∃ W3, W2.alloc (.cells #[iv sd, .slice none 0 0, .map (some mi), .map (some mc)] 103) = W3 := ⟨_, rfl⟩
  obtain ⟨gb, hgb⟩ : ∃ b, W2.heap.size = b := ⟨_, rfl⟩
  rw [hW3, hgb] at S3
  have S4 : Sep w0 W3 (gOpen gb sd (.slice none 0 0) mi mc [] [] l) := bk1 [_, _, _] (S3.nilV 119 1)
  have HS := Keep.mk (grid_shut (Gok.nil sd hs) S4)
  obtain ⟨h1, h2⟩ := hs
  have n1 : ¬ sd < 1 := by omega
  have n2 : ¬ 1099511627776 < sd := by omega
  clear S1 S2 S3 S4 h h1 h2
  have hmm := @run_makeMap Tryz.prog
  go_enter Tryz.func45, Tryz.ntmps45
  go_wp2_with fail
  go_ret2
  exact ⟨gb, rfl, HS.out⟩
end Go.Proofs.YtgedlabmndlooaaGreat

namespace Go.Proofs.YtgedlabmndlooaaGreat
open Go Go.RowKit

section
variable {w0 W : World} {gb : Nat} {sd : Int} {va : Value} {mi mc : Nat} {A : List Tg} {C : List Cl} {l : List As}
set_option maxRecDepth 100000 in
theorem g_in {a : As} (h : Sep w0 W (a :: gOpen gb sd va mi mc A C l)) : Sep w0 W (gOpen gb sd va mi mc A C (a :: l)) := by
  rw [← gOpen_app] at h ⊢
  exact h.perm List.perm_middle.symm
set_option maxRecDepth 100000 in
theorem g_out {a : As} (h : Sep w0 W (gOpen gb sd va mi mc A C (a :: l))) : Sep w0 W (a :: gOpen gb sd va mi mc A C l) := by
  rw [← gOpen_app] at h ⊢
  exact h.perm List.perm_middle
abbrev gIds (mi : Nat) (A : List Tg) : As := mapA idsM mi A.length (idf A)
abbrev gRow (va : Value) (A : List Tg) : As := rowV 119 1 va A.length (A.map (fun t => pt t.b))
set_option maxRecDepth 100000 in
theorem g_flat (h : Sep w0 W (gOpen gb sd va mi mc A C l)) : Sep w0 W (gIds mi A :: gRow va A :: gbx gb sd va (.map (some mi)) mc :: mapA cellsM mc C.length (clf C) :: (A.map tgA ++ (C.map clA ++ l))) := by
  have e : gOpen gb sd va mi mc A C l = (gbx gb sd va (.map (some mi)) mc :: mapA cellsM mc C.length (clf C) :: (A.map tgA ++ C.map clA)) ++ ([gIds mi A, gRow va A] ++ l) := by
    simp only [gOpen, List.cons_append, List.append_assoc, List.nil_append]
  rw [e] at h
  have h2 := h.perm (pm3 _ _ _)
  simpa only [List.cons_append, List.append_assoc, List.nil_append] using h2
set_option maxRecDepth 100000 in
theorem g_unflat (h : Sep w0 W (gIds mi A :: gRow va A :: gbx gb sd va (.map (some mi)) mc :: mapA cellsM mc C.length (clf C) :: (A.map tgA ++ (C.map clA ++ l)))) : Sep w0 W (gOpen gb sd va mi mc A C l) := by
  have e : gOpen gb sd va mi mc A C l = (gbx gb sd va (.map (some mi)) mc :: mapA cellsM mc C.length (clf C) :: (A.map tgA ++ C.map clA)) ++ ([gIds mi A, gRow va A] ++ l) := by
    simp only [gOpen, List.cons_append, List.append_assoc, List.nil_append]
  rw [e]
  have h1 : Sep w0 W ([gIds mi A, gRow va A] ++ ((gbx gb sd va (.map (some mi)) mc :: mapA cellsM mc C.length (clf C) :: (A.map tgA ++ C.map clA)) ++ l)) := by
    simpa only [List.cons_append, List.append_assoc, List.nil_append] using h
  exact h1.perm (pm3 _ _ _)
end
set_option maxRecDepth 100000 in
theorem pl_core {A' B : List Tg} (h : A'.map core = B.map core) : A'.map plOf = B.map plOf := by
  have e : ∀ L : List Tg, L.map plOf = (L.map core).map plOf := fun L => by rw [List.map_map]; rfl
  rw [e A', h, ← e B]
set_option maxRecDepth 100000 in
theorem pt_core {A' B : List Tg} (h : A'.map core = B.map core) : A'.map (fun t => pt t.b) = B.map (fun t => pt t.b) := by
  have e : ∀ L : List Tg, L.map (fun t => pt t.b) = (L.map core).map (fun t => pt t.b) := fun L => by rw [List.map_map]; rfl
  rw [e A', h, ← e B]
set_option maxRecDepth 100000 in
theorem len_core {A' B : List Tg} (h : A'.map core = B.map core) : A'.length = B.length := by
  rw [← List.length_map (f := core), h, List.length_map]
set_option maxRecDepth 100000 in
theorem mem_core {A' B : List Tg} (h : A'.map core = B.map core) {t : Tg} (ht : t ∈ A') : ∃ u ∈ B, core u = core t := by
  have : core t ∈ B.map core := by rw [← h]; exact List.mem_map_of_mem ht
  obtain ⟨u, hu, e⟩ := List.mem_map.1 this
  exact ⟨u, hu, e⟩
set_option maxRecDepth 100000 in
theorem Gok.of_core {sd : Int} {A' B : List Tg} {C : List Cl} {M : List Pl} (hs : 1 ≤ sd ∧ sd ≤ 1099511627776) (j : Jok sd A' C none) (hc : A'.map core = B.map core) (st : ∀ (i : Nat) (t : Tg), B[i]? = some t → t.s = i) (rg : ∀ t ∈ B, I64 t.id ∧ I64 t.x ∧ I64 t.y)
    (con : (B.map plOf).Perm M) (srt : Srt M) : Gok sd A' C M where
  hs := hs
  j := j
  st i t h := by
    have h1 : (A'.map core)[i]? = some (core t) := by rw [List.getElem?_map, h]; rfl
    rw [hc, List.getElem?_map] at h1
    cases hb : B[i]? with
    | none => rw [hb] at h1; cases h1
    | some u =>
      rw [hb] at h1
      have e := Option.some.inj h1
      have : (core u).s = (core t).s := congrArg Tg.s e
      replace this : u.s = t.s := this
      rw [← this]
      exact st i u hb
  rg t ht := by
    obtain ⟨u, hu, e⟩ := mem_core hc ht
    have e1 : u.id = t.id := (congrArg Tg.id e : (core u).id = (core t).id)
    have e2 : u.x = t.x := (congrArg Tg.x e : (core u).x = (core t).x)
    have e3 : u.y = t.y := (congrArg Tg.y e : (core u).y = (core t).y)
    rw [← e1, ← e2, ← e3]
    exact rg u hu
  con := by rw [pl_core hc]; exact con
  srt := srt
set_option maxRecDepth 100000 in
theorem Sep.blk {w0 W : World} {l : List As} {b c : Nat} {cs ds : List Value} {t u : TypeId} (h : Sep w0 W (boxA b cs t :: l)) (hm : boxA c ds u ∈ l) : b ≠ c := h.boxNe hm
def setxy (b : Nat) (x y : Int) (A : List Tg) : List Tg := A.map (fun u => if u.b = b then { u with x := x, y := y } else u)
set_option maxRecDepth 100000 in
theorem setxy_perm {A R : List Tg} {t : Tg} (x y : Int) (hp : A.Perm (t :: R)) (hn : ∀ u ∈ R, t.b ≠ u.b) : (setxy t.b x y A).Perm ({ t with x := x, y := y } :: R) := by
  have h := hp.map (fun u => if u.b = t.b then { u with x := x, y := y } else u)
  rw [List.map_cons, if_pos rfl] at h
  refine h.trans (List.Perm.cons _ ?_)
  have e : R.map (fun u => if u.b = t.b then { u with x := x, y := y } else u) = R := by
    conv => rhs; rw [← List.map_id R]
    refine List.map_congr_left fun u hu => ?_
    rw [if_neg (Ne.symm (hn u hu))]; rfl
  rw [e]
set_option maxRecDepth 100000 in
theorem info60 : (Tryz.prog.info? 122).map (·.size) = some 5 := by kernel_rfl
set_option maxRecDepth 100000 in
theorem rmk_of {M R : List Pl} {t : Pl} (hp : (t :: R).Perm M) (hs : Srt M) : R.Perm (rmk M t.id) := by
  have h1 : (t :: R).Pairwise (fun a b : Pl => a.id ≠ b.id) := (hp.pairwise_iff (fun {_ _} q => Ne.symm q)).2 hs.ne
  have h2 := (List.pairwise_cons.1 h1).1
  have h3 : (rmk (t :: R) t.id).Perm (rmk M t.id) := hp.filter _
  have h4 : rmk (t :: R) t.id = R := by
    unfold rmk
    rw [List.filter_cons]
    simp only [ne_eq, not_true_eq_false, decide_false, Bool.false_eq_true, if_false]
    exact List.filter_eq_self.2 (fun u hu => by simpa using (h2 u hu).symm)
  rw [h4] at h3
  exact h3
set_option maxRecDepth 100000 in
set_option maxHeartbeats 8000000 in
theorem put_new (w0 W : World) (l : List As) (gb : Nat) (sd : Int) (M : List Pl) (id x y : Int) (hid : I64 id) (hx : I64 x) (hy : I64 y) (hn : (M.length + 1) * 8 ≤ 140737488355328) (va : Value) (mi mc : Nat) (A : List Tg) (C : List Cl) (g : Gok sd A C M) (hlk : look M id = none) (hif : idf A id = none) (hno : ∀ t ∈ A, t.id ≠ id)
    (h : Sep w0 W (gOpen gb sd va mi mc A C l)) :
    Calls Tryz.prog 59 #[pt gb, iv id, vv x y] W fun e W' => e = .returned (.tuple #[]) ∧ Sep w0 W' (gridA gb sd (putM M ⟨id, x, y⟩) :: l) := by
  have hlen := g.len
  have S1 := h.newBox #[iv x, iv y] 24
  obtain ⟨W1, hW1⟩ : ∃ W1, W.alloc (.cells #[iv x, iv y] 24) = W1 := ⟨_, rfl⟩
  obtain ⟨ab, hab⟩ : ∃ b, W.heap.size = b := ⟨_, rfl⟩
  rw [hW1, hab] at S1
  have hl := (S1.mapGet (List.mem_cons_of_mem _ m_ids)).look id hid
  rw [hif] at hl
  replace hl : (Instr.lookup 99 (.map (some mi)) (iv id) false).run Tryz.prog W1 = .ok (.pointer none) W1 := hl
  have c1 := (S1.boxGet k1m).cellv 2 _ rfl
  have S2 := S1.newBox #[iv id, iv 0, iv 0, iv 0, iv 0] 122
  obtain ⟨W2, hW2⟩ : ∃ W2, W1.alloc (.cells #[iv id, iv 0, iv 0, iv 0, iv 0] 122) = W2 := ⟨_, rfl⟩
  obtain ⟨tb, htb⟩ : ∃ b, W1.heap.size = b := ⟨_, rfl⟩
  rw [hW2, htb] at S2
  have hfresh : ∀ u ∈ A, tb ≠ u.b := fun u hu => S2.blk (c := u.b) (ds := [iv u.id, iv u.x, iv u.y, iv u.s, iv u.p]) (u := 122) (List.mem_cons_of_mem _ (m_tg hu))
  have c2 := (S2.boxGet k2m).cellv 2 _ rfl
  have S2a : Sep w0 W2 ([boxA tb [iv id, iv 0, iv 0, iv 0, iv 0] 122, boxA ab [iv x, iv y] 24] ++ gOpen gb sd va mi mc A C l) := S2
  have S2b : Sep w0 W2 (gIds mi A :: gRow va A :: gbx gb sd va (.map (some mi)) mc :: mapA cellsM mc C.length (clf C) :: (A.map tgA ++ (C.map clA ++ (boxA tb [iv id, iv 0, iv 0, iv 0, iv 0] 122 :: boxA ab [iv x, iv y] 24 :: l)))) := g_flat (by
    have := S2a
    rw [← gOpen_app] at this ⊢
    exact this.perm (pm3 _ _ _))
  obtain ⟨W3, r3, m3, G3, _⟩ := (S2b.mapGet k0m).put id hid (tb + 1) (by omega)
  replace r3 : (Instr.mapUpdate 99 (.map (some mi)) (iv id) (pt tb)).run Tryz.prog W2 = .ok () W3 := r3
  rw [hif] at m3
  have S3 := S2b.mapTo m3 G3
  -- the row first, the thing second
  have S3b : Sep w0 W3 (gRow va A :: boxA tb [iv id, iv 0, iv 0, iv 0, iv 0] 122 :: (mapA idsM mi (A.length + 1) (upd (idf A) id (some (tb + 1))) :: gbx gb sd va (.map (some mi)) mc :: mapA cellsM mc C.length (clf C) :: (A.map tgA ++ (C.map clA ++ (boxA ab [iv x, iv y] 24 :: l))))) := by
    have q : Sep w0 W3 (([mapA idsM mi (A.length + 1) (upd (idf A) id (some (tb + 1))), gRow va A, gbx gb sd va (.map (some mi)) mc, mapA cellsM mc C.length (clf C)] ++ (A.map tgA ++ C.map clA)) ++ boxA tb [iv id, iv 0, iv 0, iv 0, iv 0] 122 :: (boxA ab [iv x, iv y] 24 :: l)) := by
      simpa only [List.cons_append, List.append_assoc, List.nil_append, Option.isSome_none, Bool.false_eq_true, if_false] using S3
    have q2 := fr1 _ q
    have q3 := fr1 [_, _] q2
    simpa only [List.cons_append, List.append_assoc, List.nil_append, List.append_eq] using q3
  have c3 := (S3b.boxGet (List.mem_cons_of_mem _ k2m)).cellv 1 _ rfl
  have HL := Keep.mk (lay0_c w0 W3 _ va A.length _ tb _ _ _ _ _ (by omega) S3b)
  have hG := Keep.mk g
  have HF := Keep.mk hfresh
  have HNO := Keep.mk (And.intro hlk hno)
  have HI := Keep.mk (And.intro hid (And.intro hx hy))
  have HN : Keep ((A.length + 1) * 8 ≤ 140737488355328) := ⟨by omega⟩
  clear h S1 S2 S2a S2b S3 S3b m3 G3 g hfresh hlk hno hid hx hy hn hlen hif
  obtain ⟨du, hdu, hdr⟩ := under32
  go_enter Tryz.func59, Tryz.ntmps59
  go_wp2_with fail
  refine HL.out.mono ?_
  rintro e W4 ⟨g9, c9, rfl, S4⟩
  have S5 := (fr1 [_, _, _] S4).boxPut 1 (sl g9 (A.length + 1) c9)
  have x4 := (S4.boxGet k3m).cellv 1 _ rfl
  have y4 := (S4.boxGet k3m).frozen 1
  obtain ⟨W5, hW5⟩ : ∃ W5, W4.setCell ⟨gb, 1, none⟩ (sl g9 (A.length + 1) c9) = W5 := ⟨_, rfl⟩
  rw [hW5] at S5
  have hm5 : boxA ab [iv x, iv y] 24 ∈ (boxA gb ([iv sd, va, .map (some mi), .map (some mc)].set 1 (sl g9 (A.length + 1) c9)) 103 :: ([rowV 119 1 (sl g9 (A.length + 1) c9) (A.length + 1) (A.map (fun t => pt t.b) ++ [pt tb]), boxA tb [iv id, iv 0, iv 0, iv A.length, iv 0] 122, mapA idsM mi (A.length + 1) (upd (idf A) id (some (tb + 1)))] ++ mapA cellsM mc C.length (clf C) :: (A.map tgA ++ (C.map clA ++ (boxA ab [iv x, iv y] 24 :: l))))) := by
    simp
  have a0 := (S5.boxGet hm5).cellv 0 _ rfl
  have a1 := (S5.boxGet hm5).cellv 1 _ rfl
  have b0 := (S5.boxGet k2m).cellv 1 _ rfl
  have b1 := (S5.boxGet k2m).cellv 2 _ rfl
  have f0 := (S5.boxGet k2m).frozen 1
  have f1 := (S5.boxGet k2m).frozen 2
  have S6 := ((fr1 [_, _] S5).boxPut 1 (iv x)).boxPut 2 (iv y)
  obtain ⟨W6, hW6⟩ : ∃ W6, (W5.setCell ⟨tb, 1, none⟩ (iv x)).setCell ⟨tb, 2, none⟩ (iv y) = W6 := ⟨_, rfl⟩
  rw [hW6] at S6
  have HB := Keep.mk S6
  clear S4 S5 S6 HL hm5
  generalize hnn : A.length + 1 = n1 at *
  go_wp2_with fail
  have hjn : Jok sd (⟨tb, id, x, y, A.length, 0⟩ :: A) C (some tb) := hG.out.j.new (t := ⟨tb, id, x, y, A.length, 0⟩) HF.out
  have hpB : (⟨tb, id, x, y, A.length, 0⟩ :: A : List Tg).Perm (A ++ [⟨tb, id, x, y, A.length, 0⟩]) := List.perm_append_comm (l₁ := [_])
  obtain ⟨t1, ht1⟩ : ∃ t1 : Tg, t1 = ⟨tb, id, x, y, A.length, 0⟩ := ⟨_, rfl⟩
  have hb1 : t1.b = tb := by rw [ht1]
  have hS : Sep w0 W6 (gbx gb sd (sl g9 n1 c9) (.map (some mi)) mc :: mapA cellsM mc C.length (clf C) :: ((A ++ [t1]).map tgA ++ (C.map clA ++ (rowV 119 1 (sl g9 n1 c9) n1 (A.map (fun t => pt t.b) ++ [pt tb]) :: mapA idsM mi n1 (upd (idf A) id (some (tb + 1))) :: boxA ab [iv x, iv y] 24 :: l)))) := by
    have q0 : Sep w0 W6 (boxA tb [iv id, iv x, iv y, iv A.length, iv 0] 122 :: gbx gb sd (sl g9 n1 c9) (.map (some mi)) mc :: rowV 119 1 (sl g9 n1 c9) n1 (A.map (fun t => pt t.b) ++ [pt tb]) :: mapA idsM mi n1 (upd (idf A) id (some (tb + 1))) :: mapA cellsM mc C.length (clf C) :: (A.map tgA ++ (C.map clA ++ (boxA ab [iv x, iv y] 24 :: l)))) := HB.out
    have q1 := (fr1 [_, _, _, _] (fr1 [_] q0)).swap
    have q2 : Sep w0 W6 ([gbx gb sd (sl g9 n1 c9) (.map (some mi)) mc, mapA cellsM mc C.length (clf C), boxA tb [iv id, iv x, iv y, iv A.length, iv 0] 122] ++ ([rowV 119 1 (sl g9 n1 c9) n1 (A.map (fun t => pt t.b) ++ [pt tb]), mapA idsM mi n1 (upd (idf A) id (some (tb + 1)))] ++ ((A.map tgA ++ C.map clA) ++ (boxA ab [iv x, iv y] 24 :: l)))) := by
      rw [List.append_assoc]
      exact q1
    have q3 := q2.perm ((pm3 _ _ _).append_left _)
    have q4 : Sep w0 W6 ([gbx gb sd (sl g9 n1 c9) (.map (some mi)) mc, mapA cellsM mc C.length (clf C)] ++ ((t1 :: A).map tgA ++ (C.map clA ++ (rowV 119 1 (sl g9 n1 c9) n1 (A.map (fun t => pt t.b) ++ [pt tb]) :: mapA idsM mi n1 (upd (idf A) id (some (tb + 1))) :: boxA ab [iv x, iv y] 24 :: l)))) := by
      rw [List.append_assoc] at q3
      rw [ht1]
      exact q3
    exact Sep.permM [_, _] (by rw [ht1]; exact hpB) q4
  rw [← hb1]
  refine (enter_c w0 W6 _ gb mc sd _ _ (A ++ [t1]) C t1 (List.mem_append_right _ (List.mem_singleton_self _)) hG.out.hs (by rw [ht1]; exact HI.out.2.1) (by rw [ht1]; exact HI.out.2.2) (by rw [hb1, ht1]; exact hjn.perm hpB (List.Perm.refl _)) (by rw [List.length_append, List.length_singleton, hnn]; exact HN.out) hS).mono ?_
  rintro e W7 ⟨rfl, A', C', hco, hJ, S7⟩
  have HE : Keep (Sep w0 W7 (gridA gb sd (putM M ⟨id, x, y⟩) :: l)) := by
    refine ⟨?_⟩
    have el : A'.length = n1 := by rw [len_core hco, List.length_append, List.length_singleton, hnn]
    have er : A'.map (fun t => pt t.b) = A.map (fun t => pt t.b) ++ [pt tb] := by rw [pt_core hco, List.map_append, List.map_cons, List.map_nil, hb1]
    have eB : (A ++ [t1]).Pairwise (fun a b => a.id ≠ b.id) := by
      refine List.pairwise_append.2 ⟨hG.out.idd, List.pairwise_singleton _ _, fun a ha b hb => ?_⟩
      rw [List.mem_singleton] at hb
      subst hb
      rw [ht1]
      exact HNO.out.2 a ha
    have ei : idf A' = upd (idf A) id (some (tb + 1)) := by
      rw [idf_core hco, idf_perm eB (A' := t1 :: A) List.perm_append_comm]
      have := idf_new (t := t1) (R := A)
      rw [← this, ht1]
    have hgok : Gok sd A' C' (putM M ⟨id, x, y⟩) := by
      refine Gok.of_core hG.out.hs hJ hco (fun i t hi => ?_) (fun t ht => ?_) ?_ (hG.out.srt.put _)
      · by_cases hlt : i < A.length
        · rw [List.getElem?_append_left hlt] at hi
          exact hG.out.st i t hi
        · rw [List.getElem?_append_right (by omega)] at hi
          have h1 := (List.getElem?_eq_some_iff.1 hi).1
          simp only [List.length_singleton] at h1
          have e2 : i = A.length := by omega
          subst e2
          rw [Nat.sub_self] at hi
          have := Option.some.inj hi
          rw [← this, ht1]
      · rcases List.mem_append.1 ht with ht | ht
        · exact hG.out.rg t ht
        · rw [List.mem_singleton] at ht
          rw [ht, ht1]
          exact HI.out
      · rw [List.map_append, List.map_cons, List.map_nil]
        refine List.perm_append_comm.trans ?_
        have hr : rmk M id = M := rmk_none HNO.out.1
        unfold putM
        refine List.Perm.trans ?_ (ins_perm _ _).symm
        show (plOf t1 :: A.map plOf).Perm _
        rw [ht1]
        refine List.Perm.cons _ ?_
        show (A.map plOf).Perm (rmk M id)
        rw [hr]
        exact hG.out.con
    refine (grid_shut (va := sl g9 n1 c9) (mi := mi) (mc := mc) (l := boxA ab [iv x, iv y] 24 :: l) hgok ?_).swap.tail
    unfold gOpen
    rw [ei, er, el]
    exact S7.perm ((((List.Perm.swap _ _ _).append_left _).append_left _).append_left [_, _])
  clear S7 hS hJ hco hjn hpB
  go_wp2_with fail
  go_end0
  exact ⟨rfl, HE.out⟩
end Go.Proofs.YtgedlabmndlooaaGreat

namespace Go.Proofs.YtgedlabmndlooaaGreat
open Go Go.RowKit

set_option maxRecDepth 100000 in
theorem idf_like {φ : Tg → Tg} (h1 : ∀ u, (φ u).id = u.id) (h2 : ∀ u, (φ u).b = u.b) (A : List Tg) : idf (A.map φ) = idf A := by
  induction A with
  | nil => rfl
  | cons t R ih =>
    funext k
    rw [List.map_cons, idf_cons, idf_cons, ih, h1, h2]
set_option maxRecDepth 100000 in
theorem mid_core {A B : List Tg} (h : A.map core = B.map core) {t : Tg} (ht : t ∈ B) : ∃ u ∈ A, core u = core t := mem_core h.symm ht
set_option maxRecDepth 100000 in
theorem st_core {A' B : List Tg} (hc : A'.map core = B.map core) (st : ∀ (i : Nat) (t : Tg), B[i]? = some t → t.s = i) : ∀ (i : Nat) (t : Tg), A'[i]? = some t → t.s = i := by
  intro i t h
  have h1 : (A'.map core)[i]? = some (core t) := by rw [List.getElem?_map, h]; rfl
  rw [hc, List.getElem?_map] at h1
  cases hb : B[i]? with
  | none => rw [hb] at h1; cases h1
  | some u =>
    rw [hb] at h1
    have e := Option.some.inj h1
    have : (core u).s = (core t).s := congrArg Tg.s e
    replace this : u.s = t.s := this
    rw [← this]
    exact st i u hb
set_option maxRecDepth 100000 in
set_option maxHeartbeats 8000000 in
theorem put_old (w0 W : World) (l : List As) (gb : Nat) (sd : Int) (M : List Pl) (x y : Int) (hx : I64 x) (hy : I64 y) (hn : M.length * 8 ≤ 140737488355328) (va : Value) (mi mc : Nat) (A : List Tg) (C : List Cl) (g : Gok sd A C M) (t : Tg) (ht : t ∈ A) (hif : idf A t.id = some (t.b + 1))
    (h : Sep w0 W (gOpen gb sd va mi mc A C l)) :
    Calls Tryz.prog 59 #[pt gb, iv t.id, vv x y] W fun e W' => e = .returned (.tuple #[]) ∧ Sep w0 W' (gridA gb sd (putM M ⟨t.id, x, y⟩) :: l) := by
  have hlen := g.len
  have hid := (g.rg t ht).1
  have S1 := h.newBox #[iv x, iv y] 24
  obtain ⟨W1, hW1⟩ : ∃ W1, W.alloc (.cells #[iv x, iv y] 24) = W1 := ⟨_, rfl⟩
  obtain ⟨ab, hab⟩ : ∃ b, W.heap.size = b := ⟨_, rfl⟩
  rw [hW1, hab] at S1
  have hl := (S1.mapGet (List.mem_cons_of_mem _ m_ids)).look t.id hid
  rw [hif] at hl
  replace hl : (Instr.lookup 99 (.map (some mi)) (iv t.id) false).run Tryz.prog W1 = .ok (pt t.b) W1 := hl
  have c1 := (S1.boxGet k1m).cellv 2 _ rfl
  have HL := Keep.mk (leave_c w0 W1 _ gb mc sd va (.map (some mi)) A C t ht g.hs (g.rg t ht).2.1 (g.rg t ht).2.2 g.j (by omega) (g_in S1))
  have hG := Keep.mk g
  have HT := Keep.mk ht
  have HI := Keep.mk (And.intro hid (And.intro hx hy))
  have HN : Keep (A.length * 8 ≤ 140737488355328) := ⟨by omega⟩
  clear h S1 g hid hx hy hn hlen hif ht
  go_enter Tryz.func59, Tryz.ntmps59
  go_wp2_with fail
  refine HL.out.mono ?_
  rintro e W2 ⟨rfl, A1, C1, hco, hJ, S2⟩
  obtain ⟨t1, ht1, hct⟩ := mid_core hco HT.out
  have hb1 : t1.b = t.b := (congrArg Tg.b hct : (core t1).b = (core t).b)
  have hi1 : t1.id = t.id := (congrArg Tg.id hct : (core t1).id = (core t).id)
  obtain ⟨R1, hA1⟩ := mem_perm ht1
  have S3 : Sep w0 W2 ([gbx gb sd va (.map (some mi)) mc, mapA cellsM mc C1.length (clf C1), tgA t1] ++ (R1.map tgA ++ (C1.map clA ++ (gIds mi A :: gRow va A :: boxA ab [iv x, iv y] 24 :: l)))) := Sep.permM [_, _] hA1 S2
  have S4 : Sep w0 W2 (boxA t.b [iv t1.id, iv t1.x, iv t1.y, iv t1.s, iv t1.p] 122 :: ([gbx gb sd va (.map (some mi)) mc, mapA cellsM mc C1.length (clf C1)] ++ (R1.map tgA ++ (C1.map clA ++ (gIds mi A :: gRow va A :: boxA ab [iv x, iv y] 24 :: l))))) := by
    rw [← hb1]
    exact fr1 [_, _] S3
  have hm4 : boxA ab [iv x, iv y] 24 ∈ boxA t.b [iv t1.id, iv t1.x, iv t1.y, iv t1.s, iv t1.p] 122 :: ([gbx gb sd va (.map (some mi)) mc, mapA cellsM mc C1.length (clf C1)] ++ (R1.map tgA ++ (C1.map clA ++ (gIds mi A :: gRow va A :: boxA ab [iv x, iv y] 24 :: l)))) := by
    simp
  have a0 := (S4.boxGet hm4).cellv 0 _ rfl
  have a1 := (S4.boxGet hm4).cellv 1 _ rfl
  have b0 := (S4.boxGet k0m).cellv 1 _ rfl
  have b1 := (S4.boxGet k0m).cellv 2 _ rfl
  have f0 := (S4.boxGet k0m).frozen 1
  have f1 := (S4.boxGet k0m).frozen 2
  have S6 := (S4.boxPut 1 (iv x)).boxPut 2 (iv y)
  obtain ⟨W6, hW6⟩ : ∃ W6, (W2.setCell ⟨t.b, 1, none⟩ (iv x)).setCell ⟨t.b, 2, none⟩ (iv y) = W6 := ⟨_, rfl⟩
  rw [hW6] at S6
  have hJ1 := hJ.perm hA1 (List.Perm.refl C1)
  rw [← hb1] at hJ1
  have hbn := (List.pairwise_cons.1 hJ1.bd).1
  have hJ2 := hJ1.move (t' := { t1 with x := x, y := y }) rfl
  have hpx := setxy_perm x y hA1 hbn
  have hS : Sep w0 W6 (gbx gb sd va (.map (some mi)) mc :: mapA cellsM mc C1.length (clf C1) :: ((setxy t1.b x y A1).map tgA ++ (C1.map clA ++ (gIds mi A :: gRow va A :: boxA ab [iv x, iv y] 24 :: l)))) := by
    refine Sep.permM [_, _] hpx.symm ?_
    have q : Sep w0 W6 ([gbx gb sd va (.map (some mi)) mc, mapA cellsM mc C1.length (clf C1)] ++ boxA t.b [iv t1.id, iv x, iv y, iv t1.s, iv t1.p] 122 :: (R1.map tgA ++ (C1.map clA ++ (gIds mi A :: gRow va A :: boxA ab [iv x, iv y] 24 :: l)))) := bk1 [_, _] S6
    rw [← hb1] at q
    exact q
  have hm2 : ({ t1 with x := x, y := y } : Tg) ∈ setxy t1.b x y A1 := hpx.mem_iff.2 (List.mem_cons_self ..)
  have HE := Keep.mk (enter_c w0 W6 _ gb mc sd _ _ (setxy t1.b x y A1) C1 { t1 with x := x, y := y } hm2 hG.out.hs HI.out.2.1 HI.out.2.2 (hJ2.perm hpx.symm (List.Perm.refl _)) (by unfold setxy; rw [List.length_map, len_core hco]; exact HN.out) hS)
  have HE2 : Keep (Calls Tryz.prog 76 #[pt gb, pt t.b] W6 _) := ⟨by rw [← hb1]; exact HE.out⟩
  have HCO := Keep.mk hco
  have HA1 := Keep.mk hA1
  have HPX := Keep.mk hpx
  have HIB := Keep.mk (And.intro hi1 hb1)
  clear HE S2 S3 S4 S6 hS hm4 hJ hJ1 hJ2 hbn hco hA1 hpx hct ht1 hm2 HL hi1 hb1
  go_wp2_with fail
  refine HE2.out.mono ?_
  rintro e W7 ⟨rfl, A', C', hco2, hJ, S7⟩
  have HF : Keep (Sep w0 W7 (gridA gb sd (putM M ⟨t.id, x, y⟩) :: l)) := by
    refine ⟨?_⟩
    obtain ⟨hi1, hb1⟩ := HIB.out
    have el : A'.length = A.length := by rw [len_core hco2]; unfold setxy; rw [List.length_map, len_core HCO.out]
    have e2 : (setxy t1.b x y A1).map (fun t => pt t.b) = A1.map (fun t => pt t.b) := by
      unfold setxy
      rw [List.map_map]
      refine List.map_congr_left fun u _ => ?_
      simp only [Function.comp]
      split <;> rfl
    have er : A'.map (fun t => pt t.b) = A.map (fun t => pt t.b) := by rw [pt_core hco2, e2, pt_core HCO.out]
    have ei : idf A' = idf A := by
      rw [idf_core hco2]
      unfold setxy
      rw [idf_like (fun u => by split <;> rfl) (fun u => by split <;> rfl), idf_core HCO.out]
    have hst1 := st_core HCO.out hG.out.st
    have hgok : Gok sd A' C' (putM M ⟨t.id, x, y⟩) := by
      refine Gok.of_core hG.out.hs hJ hco2 (fun i u hi => ?_) (fun u hu => ?_) ?_ (hG.out.srt.put _)
      · unfold setxy at hi
        rw [List.getElem?_map] at hi
        cases hb : A1[i]? with
        | none => rw [hb] at hi; cases hi
        | some v =>
          rw [hb] at hi
          have := hst1 i v hb
          have e := Option.some.inj hi
          rw [← e, ← this]
          dsimp only
          split <;> rfl
      · have hmem : ∀ v ∈ A1, I64 v.id ∧ I64 v.x ∧ I64 v.y := by
          intro v hv
          obtain ⟨z, hz, e⟩ := mem_core HCO.out hv
          have e1 : z.id = v.id := (congrArg Tg.id e : (core z).id = (core v).id)
          have e2 : z.x = v.x := (congrArg Tg.x e : (core z).x = (core v).x)
          have e3 : z.y = v.y := (congrArg Tg.y e : (core z).y = (core v).y)
          rw [← e1, ← e2, ← e3]
          exact hG.out.rg z hz
        rcases List.mem_cons.1 (HPX.out.mem_iff.1 hu) with rfl | hu
        · exact ⟨(hmem t1 (HA1.out.mem_iff.2 (List.mem_cons_self ..))).1, HI.out.2⟩
        · exact hmem u (HA1.out.mem_iff.2 (List.mem_cons_of_mem _ hu))
      · refine (HPX.out.map plOf).trans ?_
        unfold putM
        refine List.Perm.trans ?_ (ins_perm _ _).symm
        show (plOf { t1 with x := x, y := y } :: R1.map plOf).Perm _
        have e3 : plOf { t1 with x := x, y := y } = ⟨t.id, x, y⟩ := by unfold plOf; rw [← hi1]
        rw [e3]
        refine List.Perm.cons _ ?_
        show (R1.map plOf).Perm (rmk M t.id)
        have hp : (plOf t1 :: R1.map plOf).Perm M := by
          refine List.Perm.trans ?_ hG.out.con
          rw [← pl_core HCO.out]
          exact (HA1.out.map plOf).symm
        have := rmk_of hp hG.out.srt
        rw [show (plOf t1).id = t.id from hi1] at this
        exact this
    refine (grid_shut (va := va) (mi := mi) (mc := mc) (l := boxA ab [iv x, iv y] 24 :: l) hgok ?_).swap.tail
    unfold gOpen
    rw [ei, er, el]
    exact S7
  clear S7 hJ hco2 HE2
  go_wp2_with fail
  go_end0
  exact ⟨rfl, HF.out⟩
set_option maxRecDepth 100000 in
theorem put_c (w0 W : World) (l : List As) (gb : Nat) (sd : Int) (M : List Pl) (id x y : Int) (hid : I64 id) (hx : I64 x) (hy : I64 y) (hn : (M.length + 1) * 8 ≤ 140737488355328) (h : Sep w0 W (gridA gb sd M :: l)) :
    Calls Tryz.prog 59 #[pt gb, iv id, vv x y] W fun e W' => e = .returned (.tuple #[]) ∧ Sep w0 W' (gridA gb sd (putM M ⟨id, x, y⟩) :: l) := by
  obtain ⟨va, mi, mc, A, C, g, h1⟩ := grid_open h
  rcases g.look id with ⟨q1, q2, q3⟩ | ⟨t, ht, rfl, q1, q2⟩
  · exact put_new w0 W l gb sd M id x y hid hx hy hn va mi mc A C g q1 q2 q3 h1
  · exact put_old w0 W l gb sd M x y hx hy (by omega) va mi mc A C g t ht q2 h1
end Go.Proofs.YtgedlabmndlooaaGreat
