import Derived.Test.YtplcicbpkbamnabGreatDoorX34
import Derived.Test.YtplcicbpkbamnabGreatDoorX27
import Derived.Test.YtplcicbpkbamnabGreatDoorX28
/- LobbyPlays: sessions changed one by one; the reference's Refill -/
namespace Go.Proofs.YtplcicbpkbamnabGreatDoor.Lo
open Go Go.RowKit Go.Maps

/-- those of these numbers are changed -/
def chg (f : Rs → Rs) (ns : List Nat) (ps : List Rp) : List Rp := ps.map fun z => if z.x.s.num ∈ ns then { z with x := f z.x } else z
theorem nums_nd {ps : List Rp} (h : ∀ (i : Nat) (z : Rp), ps[i]? = some z → z.x.s.num = i + 1) : (ps.map fun (z : Rp) => z.x.s.num).Nodup := by
  refine List.pairwise_iff_getElem.2 fun i j hi hj hlt => ?_
  rw [List.length_map] at hi hj
  rw [List.getElem_map, List.getElem_map, h i _ (List.getElem?_eq_getElem hi), h j _ (List.getElem?_eq_getElem hj)]
  omega
theorem chg_nil (f : Rs → Rs) (ps : List Rp) : chg f [] ps = ps := by simp [chg]
theorem chg_app (f : Rs → Rs) (ns : List Nat) (A B : List Rp) : chg f ns (A ++ B) = chg f ns A ++ chg f ns B := by simp [chg]
theorem chg_sb (f : Rs → Rs) (ns : List Nat) (ps : List Rp) : ((chg f ns ps).map fun (z : Rp) => pt z.sb) = ps.map fun (z : Rp) => pt z.sb := by
  unfold chg
  rw [List.map_map]
  refine List.map_congr_left fun z _ => ?_
  show pt (if z.x.s.num ∈ ns then { z with x := f z.x } else z).sb = _
  split <;> rfl
theorem chg_no {f : Rs → Rs} {ns : List Nat} {k : Nat} {A : List Rp} (h : ∀ z ∈ A, z.x.s.num ≠ k) : chg f (ns ++ [k]) A = chg f ns A := by
  unfold chg
  refine List.map_congr_left fun z hz => ?_
  have := h z hz
  simp [this]
theorem chg_step {f : Rs → Rs} {ps : List Rp} {ns : List Nat} {i : Nat} {p : Rp} (hn : (ps.map fun (z : Rp) => z.x.s.num).Nodup) (hp : (lvP ps)[i]? = some p) (hs : ∀ k ∈ ns, k ∈ ((lvP ps).take i).map fun (z : Rp) => z.x.s.num) :
    ∃ A C, chg f ns ps = A ++ p :: C ∧ chg f (ns ++ [p.x.s.num]) ps = A ++ { p with x := f p.x } :: C := by
  have hm := (lvP_mem hp).1
  have hsub : ((lvP ps).map fun (z : Rp) => z.x.s.num).Nodup := hn.sublist (List.Sublist.map _ (List.filter_sublist))
  have hnot : p.x.s.num ∉ ns := by
    intro hk
    obtain ⟨z, hz, e⟩ := List.mem_map.1 (hs _ hk)
    obtain ⟨j, hj, ez⟩ := List.getElem_of_mem hz
    rw [List.length_take] at hj
    rw [List.getElem_take] at ez
    have hi := (List.getElem?_eq_some_iff.1 hp)
    obtain ⟨hi1, hi2⟩ := hi
    have := List.pairwise_iff_getElem.1 hsub j i (by simp; omega) (by simp; omega) (by omega)
    rw [List.getElem_map, List.getElem_map, ez, hi2] at this
    exact this e
  obtain ⟨A, C, rfl⟩ := List.append_of_mem hm
  rw [List.map_append, List.map_cons] at hn
  have hA : ∀ z ∈ A, z.x.s.num ≠ p.x.s.num := fun z hz => (List.nodup_append.1 hn).2.2 _ (List.mem_map.2 ⟨z, hz, rfl⟩) _ (List.mem_cons_self ..)
  have hC : ∀ z ∈ C, z.x.s.num ≠ p.x.s.num := fun z hz e => (List.nodup_cons.1 (List.nodup_append.1 hn).2.1).1 (by rw [← e]; exact List.mem_map.2 ⟨z, hz, rfl⟩)
  refine ⟨chg f ns A, chg f ns C, ?_, ?_⟩
  · rw [chg_app]
    congr 1
    show (if p.x.s.num ∈ ns then _ else p) :: chg f ns C = _
    rw [if_neg hnot]
  · rw [chg_app, chg_no hA]
    congr 1
    show (if p.x.s.num ∈ ns ++ [p.x.s.num] then _ else p) :: chg f (ns ++ [p.x.s.num]) C = _
    rw [if_pos (by simp), chg_no hC]
/-- all that live are changed -/
theorem chg_all {f : Rs → Rs} {ps : List Rp} (hn : (ps.map fun (z : Rp) => z.x.s.num).Nodup) (d : Rp → Bool) :
    (chg f (((lvP ps).filter d).map fun (z : Rp) => z.x.s.num) ps) = ps.map fun z => if !z.x.g && d z then { z with x := f z.x } else z := by
  unfold chg
  refine List.map_congr_left fun z hz => ?_
  have key : z.x.s.num ∈ ((lvP ps).filter d).map (fun (z : Rp) => z.x.s.num) ↔ (!z.x.g && d z) = true := by
    constructor
    · intro h
      obtain ⟨y, hy, e⟩ := List.mem_map.1 h
      obtain ⟨h1, h2⟩ := List.mem_filter.1 hy
      obtain ⟨h3, h4⟩ := List.mem_filter.1 h1
      have : y = z := by
        obtain ⟨j, hj, ej⟩ := List.getElem_of_mem h3
        obtain ⟨k, hk, ek⟩ := List.getElem_of_mem hz
        rcases Nat.lt_trichotomy j k with q | q | q
        · have := List.pairwise_iff_getElem.1 hn j k (by simp; omega) (by simp; omega) q
          rw [List.getElem_map, List.getElem_map, ej, ek] at this
          exact absurd e this
        · subst q; rw [← ej, ek]
        · have := List.pairwise_iff_getElem.1 hn k j (by simp; omega) (by simp; omega) q
          rw [List.getElem_map, List.getElem_map, ej, ek] at this
          exact absurd e.symm this
      rw [← this, h4, h2]; rfl
    · intro h
      rw [Bool.and_eq_true] at h
      exact List.mem_map.2 ⟨z, List.mem_filter.2 ⟨List.mem_filter.2 ⟨hz, h.1⟩, h.2⟩, rfl⟩
  by_cases h : (!z.x.g && d z) = true
  · rw [if_pos h, if_pos (key.2 h)]
  · rw [if_neg h, if_neg (fun q => h (key.1 q))]
/-- one session of an open lobby, and back -/
theorem rl_op {w0 W : World} {l : List As} {kb : Nat} {Y : Rl} {v1 v2 : Value} {A C : List Rp} {p : Rp} (h : Sep w0 W (rlobL kb Y (v1, v2, A ++ p :: C) ++ l)) :
    ∃ hole, (∀ a ∈ l, a ∈ hole) ∧ boxA kb ((cfv Y.c v1).toList ++ [v2]) 78 ∈ hole ∧ Sep w0 W (boxA p.sb (rsv Y.c.rate Y.c.burst p.wb p.x) 94 :: hole) ∧
      ∀ W' x', x'.s.wh = p.x.s.wh → x'.L = p.x.L → Sep w0 W' (boxA p.sb (rsv Y.c.rate Y.c.burst p.wb x') 94 :: hole) → Sep w0 W' (rlobL kb { Y with S := (A ++ { p with x := x' } :: C).map Rp.x } (v1, v2, A ++ { p with x := x' } :: C) ++ l) := by
  have hfact : (A ++ p :: C).map Rp.x = Y.S := h.fact (l := rlobL kb Y (v1, v2, A ++ p :: C) ++ l) k0m
  have hfm : ∀ z : Rp, (A ++ z :: C).flatMap (rsA Y.c.rate Y.c.burst) = A.flatMap (rsA Y.c.rate Y.c.burst) ++ (rsA Y.c.rate Y.c.burst z ++ C.flatMap (rsA Y.c.rate Y.c.burst)) := fun z => by simp
  let K : List As := [boxA kb ((cfv Y.c v1).toList ++ [v2]) 78, prow v1 Y.P, rowV 95 1 v2 Y.S.length ((A ++ p :: C).map fun (z : Rp) => pt z.sb)]
  let H : List As := boxA p.wb [p.sv, uv p.x.s.wh] 135 :: rowV 38 1 p.sv p.x.L.length (p.x.L.map uv) :: (K ++ (A.flatMap (rsA Y.c.rate Y.c.burst) ++ (C.flatMap (rsA Y.c.rate Y.c.burst) ++ l)))
  refine ⟨H, fun a ha => ?_, ?_, ?_, fun W' x' e1 e2 hS => ?_⟩
  · exact List.mem_cons_of_mem _ (List.mem_cons_of_mem _ (List.mem_append_right _ (List.mem_append_right _ (List.mem_append_right _ ha))))
  · exact List.mem_cons_of_mem _ (List.mem_cons_of_mem _ (List.mem_append_left _ (List.mem_cons_self ..)))
  · have h2 : Sep w0 W (K ++ ((A ++ p :: C).flatMap (rsA Y.c.rate Y.c.burst) ++ l)) := h.tail
    rw [hfm] at h2
    exact h2.perm (perm_mid3 K (A.flatMap (rsA Y.c.rate Y.c.burst)) (rsA Y.c.rate Y.c.burst p) (C.flatMap (rsA Y.c.rate Y.c.burst)) l)
  · have hS : Sep w0 W' (rsA Y.c.rate Y.c.burst { p with x := x' } ++ (K ++ (A.flatMap (rsA Y.c.rate Y.c.burst) ++ (C.flatMap (rsA Y.c.rate Y.c.burst) ++ l)))) := by
      unfold rsA
      show Sep w0 W' (boxA p.sb (rsv Y.c.rate Y.c.burst p.wb x') 94 :: boxA p.wb [p.sv, uv x'.s.wh] 135 :: rowV 38 1 p.sv x'.L.length (x'.L.map uv) :: (K ++ (A.flatMap (rsA Y.c.rate Y.c.burst) ++ (C.flatMap (rsA Y.c.rate Y.c.burst) ++ l))))
      rw [e1, e2]
      exact hS
    have h3 := hS.perm (perm_mid3 K (A.flatMap (rsA Y.c.rate Y.c.burst)) (rsA Y.c.rate Y.c.burst { p with x := x' }) (C.flatMap (rsA Y.c.rate Y.c.burst)) l).symm
    rw [← hfm] at h3
    have h4 := h3.know (p := (A ++ ({ p with x := x' } : Rp) :: C).map Rp.x = (A ++ ({ p with x := x' } : Rp) :: C).map Rp.x) rfl
    have e3 : ((A ++ ({ p with x := x' } : Rp) :: C).map Rp.x).length = Y.S.length := by rw [← hfact]; simp
    have e4 : ((A ++ ({ p with x := x' } : Rp) :: C).map fun (z : Rp) => pt z.sb) = (A ++ p :: C).map fun (z : Rp) => pt z.sb := by simp
    show Sep w0 W' (pureA ((A ++ ({ p with x := x' } : Rp) :: C).map Rp.x = (A ++ ({ p with x := x' } : Rp) :: C).map Rp.x) :: boxA kb ((cfv Y.c v1).toList ++ [v2]) 78 :: prow v1 Y.P :: rowV 95 1 v2 ((A ++ ({ p with x := x' } : Rp) :: C).map Rp.x).length ((A ++ ({ p with x := x' } : Rp) :: C).map fun (z : Rp) => pt z.sb) :: ((A ++ ({ p with x := x' } : Rp) :: C).flatMap (rsA Y.c.rate Y.c.burst) ++ l))
    rw [e3, e4]
    exact h4
/-- a session's bucket behind a tick -/
def rtkS (r u : Int) (x : Rs) : Rs := { x with s := { x.s with y := Bu.tk r u x.s.y 1 } }
theorem lvY_tick (r u : Int) (S : List Rs) : lvY (S.map fun x => if x.g then x else rtkS r u x) = (lvY S).map fun s => { s with y := Bu.tk r u s.y 1 } := by
  induction S with
  | nil => rfl
  | cons x S ih =>
    rw [List.map_cons, lvY_cons, lvY_cons, ih]
    cases hg : x.g <;> simp [hg, rtkS]
theorem tk_one (r u y : Int) : Bu.tk r u y 1 = min (y + r) (16 * u) := by
  unfold Bu.tk
  rw [show min (1 : Int) 16000 = 1 by omega, Int.mul_one]
theorem ref_map (r u : Int) (ps : List Rp) (S : List Rs) (hfact : ps.map Rp.x = S) : ((ps.map fun z => if !z.x.g && true then ({ z with x := rtkS r u z.x } : Rp) else z).map Rp.x) = S.map fun x => if x.g then x else rtkS r u x := by
  rw [← hfact, List.map_map, List.map_map]
  refine List.map_congr_left fun z _ => ?_
  show (if !z.x.g && true then ({ z with x := rtkS r u z.x } : Rp) else z).x = if z.x.g then z.x else rtkS r u z.x
  cases z.x.g <;> rfl
set_option maxRecDepth 100000 in
set_option maxHeartbeats 16000000 in
theorem rref_c (w0 W : World) (l : List As) (kb : Nat) (X : Lb) (Y : Rl) (h : Sep w0 W (rlobA kb Y :: l)) (hr : Rel X Y) (hn : Y.S.length ≤ 1000000) (ok : LbOk X) :
    Calls Tryz.prog 37 #[pt kb] W fun e W' => e = .returned (.tuple #[]) ∧ ∃ Y', Sep w0 W' (rlobA kb Y' :: l) ∧ Rel (refX X) Y' ∧ Y'.S.length = Y.S.length ∧ ∀ m, (∀ x ∈ Y.S, x.L.length ≤ m) → ∀ x ∈ Y'.S, x.L.length ≤ m := by
  obtain ⟨q, h⟩ := h.opn
  obtain ⟨v1, v2, ps⟩ := q
  have hfact : ps.map Rp.x = Y.S := h.fact (l := rlobL kb Y (v1, v2, ps) ++ l) k0m
  have hnum : ∀ (i : Nat) (z : Rp), ps[i]? = some z → z.x.s.num = i + 1 := fun i z hz => hr.num i z.x (by rw [← hfact, List.getElem?_map, hz]; rfl)
  have hND := nums_nd hnum
  obtain ⟨n, hnn⟩ : ∃ n, (lvP ps).length = n := ⟨_, rfl⟩
  have hXS : (lvP ps).map (fun p => p.x.s) = X.S := by rw [lvP_s, hfact, hr.s]
  have hle : n ≤ 32 := by
    have h1 : X.S.length = n := by rw [← hXS, List.length_map, hnn]
    have := ok.le; have := ok.m2; omega
  have hYB : ∀ p ∈ lvP ps, 0 ≤ p.x.s.y ∧ p.x.s.y ≤ 16000 := fun p hp => by
    have hm : p.x.s ∈ X.S := by rw [← hXS]; exact List.mem_map.2 ⟨p, hp, rfl⟩
    have := ok.s p.x.s hm
    have := ok.r.2.2.2
    omega
  obtain ⟨r, hrr⟩ : ∃ r, Y.c.rate = r := ⟨_, rfl⟩
  obtain ⟨u, huu⟩ : ∃ u, Y.c.burst = u := ⟨_, rfl⟩
  have hr01 : 0 ≤ r ∧ r ≤ 1000 := by have := ok.r; have := hr.r; unfold Bu.okay at *; omega
  have hlv := rlives_o w0 W l kb Y (v1, v2, ps) h hn
  rw [hnn] at hlv
  have HX := Keep.mk (And.intro hfact (And.intro hND (And.intro hnn (And.intro hYB (And.intro hr01 (And.intro hrr huu))))))
  have HFIN : Keep (∀ W', Sep w0 W' (rlobL kb { Y with S := (chg (rtkS r u) (((lvP ps).take n).map fun (z : Rp) => z.x.s.num) ps).map Rp.x } (v1, v2, chg (rtkS r u) (((lvP ps).take n).map fun (z : Rp) => z.x.s.num) ps) ++ l) → ∃ Y', Sep w0 W' (rlobA kb Y' :: l) ∧ Rel (refX X) Y' ∧ Y'.S.length = Y.S.length ∧ ∀ m, (∀ x ∈ Y.S, x.L.length ≤ m) → ∀ x ∈ Y'.S, x.L.length ≤ m) := ⟨fun W' hh => by
    have e0 : (lvP ps).take n = (lvP ps).filter (fun _ => true) := by rw [List.take_of_length_le (by omega)]; exact (List.filter_eq_self.2 (fun _ _ => rfl)).symm
    have e1 : (chg (rtkS r u) (((lvP ps).take n).map fun (z : Rp) => z.x.s.num) ps).map Rp.x = Y.S.map fun x => if x.g then x else rtkS r u x := by
      rw [e0, chg_all hND, ref_map r u ps Y.S hfact]
    refine ⟨_, Sep.cls (rlobL kb _) _ hh, ?_, ?_, ?_⟩
    · show Rel (refX X) { Y with S := (chg (rtkS r u) (((lvP ps).take n).map fun (z : Rp) => z.x.s.num) ps).map Rp.x }
      rw [e1]
      refine ⟨?_, hr.a, hr.most, hr.r, hr.u, hr.idle, ?_, fun i x hx => ?_, fun x hx => ?_⟩
      · show X.S.map (tickE X) = lvY (Y.S.map fun x => if x.g then x else rtkS r u x)
        rw [lvY_tick, hr.s, ← hrr, ← huu, ← hr.r, ← hr.u]
        rfl
      · show X.next = (Y.S.map _).length + 1
        rw [List.length_map]; exact hr.next
      · obtain ⟨y, hy, rfl⟩ : ∃ y, Y.S[i]? = some y ∧ (if y.g then y else rtkS r u y) = x := by
          have hx : (Y.S.map fun x => if x.g then x else rtkS r u x)[i]? = some x := hx
          rw [List.getElem?_map] at hx
          exact Option.map_eq_some_iff.1 hx
        rw [← hr.num i y hy]
        cases y.g <;> rfl
      · obtain ⟨y, hy, rfl⟩ := List.mem_map.1 hx
        have hk := hr.ok y hy
        cases y.g
        · exact ⟨hk.inv, hk.len, hk.lt⟩
        · exact hk
    · show ((chg (rtkS r u) (((lvP ps).take n).map fun (z : Rp) => z.x.s.num) ps).map Rp.x).length = _
      rw [e1, List.length_map]
    · intro m hm x hx
      have hx : x ∈ (chg (rtkS r u) (((lvP ps).take n).map fun (z : Rp) => z.x.s.num) ps).map Rp.x := hx
      rw [e1] at hx
      obtain ⟨y, hy, rfl⟩ := List.mem_map.1 hx
      have := hm y hy
      cases y.g <;> exact this⟩
  clear h hr hn ok hXS hnn hfact hND hYB hr01 hrr huu hnum
  go_enter Tryz.func37, Tryz.ntmps37
  go_wp2_with fail
  refine hlv.mono ?_
  rintro e w1 ⟨vp, rfl, S1⟩
  obtain ⟨pa, pc', hvp⟩ := own_slice (S1.rowGet k0m)
  subst hvp
  obtain ⟨R, hR⟩ : ∃ R : As, rowV 95 1 (.slice pa n pc') n ((lvP ps).map fun (z : Rp) => pt z.sb) = R := ⟨_, rfl⟩
  have HRR := Keep.mk hR
  have HS : Keep (Sep w0 w1 (rlobL kb { Y with S := (chg (rtkS r u) (((lvP ps).take 0).map fun (z : Rp) => z.x.s.num) ps).map Rp.x } (v1, v2, chg (rtkS r u) (((lvP ps).take 0).map fun (z : Rp) => z.x.s.num) ps) ++ R :: l)) := ⟨by
    rw [List.take_zero, List.map_nil, chg_nil, HX.out.1, ← hR]
    exact S1.perm (List.perm_middle).symm⟩
  clear hlv S1 hR
  go_wp2_with fail
  go_loopw [3] (fun v wr => ∃ i : Nat, i ≤ n ∧ v = iv i ∧ Keep (Sep w0 wr (rlobL kb { Y with S := (chg (rtkS r u) (((lvP ps).take i).map fun (z : Rp) => z.x.s.num) ps).map Rp.x } (v1, v2, chg (rtkS r u) (((lvP ps).take i).map fun (z : Rp) => z.x.s.num) ps) ++ R :: l))) (fun v _ => (n - intOf v).toNat)
  case atStart => exact ⟨0, by omega, rfl, HS⟩
  case round =>
    clear HS
    obtain ⟨i, hi, rfl, hS⟩ := hrel
    by_cases hlt : i < n
    · obtain ⟨p, hp⟩ : ∃ p, (lvP ps)[i]? = some p := ⟨_, List.getElem?_eq_getElem (by rw [HX.out.2.2.1]; exact hlt)⟩
      obtain ⟨A, C, ea, eb⟩ := chg_step (f := rtkS r u) (ns := ((lvP ps).take i).map fun (z : Rp) => z.x.s.num) HX.out.2.1 hp (fun k hk => hk)
      have hTK : ((lvP ps).take (i + 1)).map (fun (z : Rp) => z.x.s.num) = ((lvP ps).take i).map (fun (z : Rp) => z.x.s.num) ++ [p.x.s.num] := by
        rw [List.take_add_one, hp]; simp
      have hS1 := hS.out
      rw [ea] at hS1
      obtain ⟨hole, hm1, _, hS2, hBK⟩ := rl_op hS1
      have hS2 : Sep w0 wr (boxA p.sb (rsv r u p.wb p.x) 94 :: hole) := by rw [← HX.out.2.2.2.2.2.1, ← HX.out.2.2.2.2.2.2]; exact hS2
      have hyb := HX.out.2.2.2.1 p (List.mem_of_getElem? hp)
      obtain ⟨yn, hyn⟩ : ∃ yn, min (p.x.s.y + r) (16 * u) = yn := ⟨_, rfl⟩
      have HBK : Keep (∀ W', Sep w0 W' (boxA p.sb (rsv r u p.wb { p.x with s := { p.x.s with y := yn } }) 94 :: hole) → Sep w0 W' (rlobL kb { Y with S := (chg (rtkS r u) (((lvP ps).take (i + 1)).map fun (z : Rp) => z.x.s.num) ps).map Rp.x } (v1, v2, chg (rtkS r u) (((lvP ps).take (i + 1)).map fun (z : Rp) => z.x.s.num) ps) ++ R :: l)) := ⟨fun W' hh => by
        rw [hTK, eb]
        have e : rtkS r u p.x = { p.x with s := { p.x.s with y := yn } } := by unfold rtkS; rw [tk_one, hyn]
        rw [e]
        exact hBK W' _ rfl rfl (by rw [← HX.out.2.2.2.2.2.1, ← HX.out.2.2.2.2.2.2] at hh; exact hh)⟩
      have hrow : ∀ W' yy, Sep w0 W' (boxA p.sb (rsv r u p.wb { p.x with s := { p.x.s with y := yy } }) 94 :: hole) → W'.ownsRow 0 95 1 (.slice pa n pc') (lvP ps).length ((lvP ps).map fun (z : Rp) => pt z.sb) := fun W' yy hh => by
        rw [HX.out.2.2.1]
        refine hh.rowGet (List.mem_cons_of_mem _ ?_)
        rw [HRR.out]
        exact hm1 R (List.mem_cons_self ..)
      obtain ⟨g, c, e, g0⟩ := row_ptr (hrow wr p.x.s.y hS2) hp
      rw [HX.out.2.2.1] at e
      injection e with e1 e2 e3
      have HPTR : Keep (∀ W' yy, Sep w0 W' (boxA p.sb (rsv r u p.wb { p.x with s := { p.x.s with y := yy } }) 94 :: hole) → W'.cell? ⟨g, i, none⟩ = some (pt p.sb)) := ⟨fun W' yy hh => by
        obtain ⟨g', c', e', g0'⟩ := row_ptr (hrow W' yy hh) hp
        rw [e1] at e'
        injection e' with e1' _ _
        injection e1' with e1'
        injection e1' with e1'
        rw [e1']
        exact g0'⟩
      subst e1 e3
      have hi0 : (0 : Int) ≤ (i : Int) := by omega
      have hi1 : (i : Int) < (n : Nat) := by omega
      have hti : ((i : Nat) : Int).toNat = i := by omega
      have hwi : IntKind.i64.wrap ((i : Int) + 1) = ((i + 1 : Nat) : Int) := by rw [wi _ (by omega) (by omega)]; omega
      have HI := Keep.mk hlt
      have SD := hS2.grown (gr_drew wr none)
      have HTK : Keep (∀ W', Calls Tryz.prog 84 #[Bu.bv r (16 * u) p.x.s.y] W' fun e w' => e = .returned (Bu.bv r (16 * u) yn) ∧ W'.grownBy w' none) := ⟨fun W' => by rw [← hyn]; exact Bu.rtick_c r (16 * u) p.x.s.y W' hyb.1 hyb.2 HX.out.2.2.2.2.1.1 HX.out.2.2.2.2.1.2⟩
      clear hS hp ea eb hTK hS1 hm1 hBK hyb hyn hrow g0 e2 hS2
      go_wp2_with fail
      refine wp_region_held_drew (S := fun w' => ∃ yy, Sep w0 w' (boxA p.sb (rsv r u p.wb { p.x with s := { p.x.s with y := yy } }) 94 :: hole)) (by kernel_rfl) ⟨_, SD⟩ (fun hHeld => ?_)
      generalize wr.drew = wA0 at SD hHeld ⊢
      have HSD := Keep.mk SD
      have c10 : wA0.cell? ⟨p.sb, 10, none⟩ = some (iv r) := (SD.boxGet k0m).cellv 10 _ rfl
      have c11 : wA0.cell? ⟨p.sb, 11, none⟩ = some (iv (16 * u)) := (SD.boxGet k0m).cellv 11 _ rfl
      have c12 : wA0.cell? ⟨p.sb, 12, none⟩ = some (iv p.x.s.y) := (SD.boxGet k0m).cellv 12 _ rfl
      have hTk := HTK.out wA0
      clear SD
      refine wpAnyH_take (i := 0) (oi := { dst := some 12, op := Op.move (Operand.tmp 2), type := 76, pos := "ref.go:232", after := #[], guard := none }) (v := ?_) rfl (by kernel_rfl) (by kernel_rfl) (by kernel_rfl) (fun _ _ _ h => h) (Or.inl ⟨by rfl, ?_⟩) (by assumption) ?_
      rotate_left
      · (intro w hSw; go_simp; first | done | (with_reducible rfl))
      simp only [Act.put, List.setIfInBounds_toArray, List.set_cons_zero, List.set_cons_succ]
      refine wpAnyH_take (i := 1) (oi := { dst := some 13, op := Op.move (Operand.tmp 3), type := 3, pos := "ref.go:232", after := #[], guard := none }) (v := ?_) rfl (by kernel_rfl) (by kernel_rfl) (by kernel_rfl) (fun _ _ _ h => h) (Or.inl ⟨by rfl, ?_⟩) (by assumption) ?_
      rotate_left
      · (intro w hSw; go_simp; first | done | (with_reducible rfl))
      simp only [Act.put, List.setIfInBounds_toArray, List.set_cons_zero, List.set_cons_succ]
      refine wpAnyH_take (i := 2) (oi := { dst := some 14, op := Op.indexAddr 76 (Operand.tmp 12) (Operand.tmp 13), type := 0, pos := "ref.go:232", after := #[{ on := 0, ground := Ground.data }, { on := 1, ground := Ground.data }], guard := none }) (v := ?_) rfl (by kernel_rfl) (by kernel_rfl) (by kernel_rfl) (fun _ _ _ h => h) (Or.inl ⟨by rfl, ?_⟩) (by assumption) ?_
      rotate_left
      · (intro w hSw; have l1 : (0 : Int) ≤ (i : Int) := (by omega); have l2 : (i : Int) < (n : Nat) := (by have := HI.out; omega); have l3 : ((i : Nat) : Int).toNat = i := (by omega); go_simp; first | done | (with_reducible rfl))
      simp only [Act.put, List.setIfInBounds_toArray, List.set_cons_zero, List.set_cons_succ]
      refine wpAnyH_take (i := 3) (oi := { dst := some 15, op := Op.load 95 (Operand.tmp 14), type := 95, pos := "ref.go:232", after := #[{ on := 2, ground := Ground.data }], guard := none }) (v := ?_) rfl (by kernel_rfl) (by kernel_rfl) (by kernel_rfl) (fun _ _ _ h => h) (Or.inl ⟨by rfl, ?_⟩) (by assumption) ?_
      rotate_left
      · (intro w hSw; obtain ⟨yy, hSw⟩ := hSw; have g0 := HPTR.out _ _ hSw; go_simp; first | done | (with_reducible rfl))
      simp only [Act.put, List.setIfInBounds_toArray, List.set_cons_zero, List.set_cons_succ]
      refine wpAnyH_take (i := 4) (oi := { dst := some 16, op := Op.move (Operand.tmp 2), type := 76, pos := "ref.go:232", after := #[], guard := none }) (v := ?_) rfl (by kernel_rfl) (by kernel_rfl) (by kernel_rfl) (fun _ _ _ h => h) (Or.inl ⟨by rfl, ?_⟩) (by assumption) ?_
      rotate_left
      · (intro w hSw; go_simp; first | done | (with_reducible rfl))
      simp only [Act.put, List.setIfInBounds_toArray, List.set_cons_zero, List.set_cons_succ]
      refine wpAnyH_take (i := 5) (oi := { dst := some 17, op := Op.move (Operand.tmp 3), type := 3, pos := "ref.go:232", after := #[], guard := none }) (v := ?_) rfl (by kernel_rfl) (by kernel_rfl) (by kernel_rfl) (fun _ _ _ h => h) (Or.inl ⟨by rfl, ?_⟩) (by assumption) ?_
      rotate_left
      · (intro w hSw; go_simp; first | done | (with_reducible rfl))
      simp only [Act.put, List.setIfInBounds_toArray, List.set_cons_zero, List.set_cons_succ]
      refine wpAnyH_take (i := 6) (oi := { dst := some 18, op := Op.indexAddr 76 (Operand.tmp 16) (Operand.tmp 17), type := 0, pos := "ref.go:232", after := #[{ on := 4, ground := Ground.data }, { on := 5, ground := Ground.data }], guard := none }) (v := ?_) rfl (by kernel_rfl) (by kernel_rfl) (by kernel_rfl) (fun _ _ _ h => h) (Or.inl ⟨by rfl, ?_⟩) (by assumption) ?_
      rotate_left
      · (intro w hSw; have l1 : (0 : Int) ≤ (i : Int) := (by omega); have l2 : (i : Int) < (n : Nat) := (by have := HI.out; omega); have l3 : ((i : Nat) : Int).toNat = i := (by omega); go_simp; first | done | (with_reducible rfl))
      simp only [Act.put, List.setIfInBounds_toArray, List.set_cons_zero, List.set_cons_succ]
      refine wpAnyH_take (i := 7) (oi := { dst := some 19, op := Op.load 95 (Operand.tmp 18), type := 95, pos := "ref.go:232", after := #[{ on := 6, ground := Ground.data }], guard := none }) (v := ?_) rfl (by kernel_rfl) (by kernel_rfl) (by kernel_rfl) (fun _ _ _ h => h) (Or.inl ⟨by rfl, ?_⟩) (by assumption) ?_
      rotate_left
      · (intro w hSw; obtain ⟨yy, hSw⟩ := hSw; have g0 := HPTR.out _ _ hSw; go_simp; first | done | (with_reducible rfl))
      simp only [Act.put, List.setIfInBounds_toArray, List.set_cons_zero, List.set_cons_succ]
      refine wpAnyH_take (i := 8) (oi := { dst := some 20, op := Op.nilCheck (Operand.tmp 19), type := 0, pos := "ref.go:232", after := #[{ on := 7, ground := Ground.data }], guard := none }) (v := ?_) rfl (by kernel_rfl) (by kernel_rfl) (by kernel_rfl) (fun _ _ _ h => h) (Or.inl ⟨by rfl, ?_⟩) (by assumption) ?_
      rotate_left
      · (intro w hSw; go_simp; first | done | (with_reducible rfl))
      simp only [Act.put, List.setIfInBounds_toArray, List.set_cons_zero, List.set_cons_succ]
      refine wpAnyH_take (i := 9) (oi := { dst := some 21, op := Op.fieldAddr 94 (Operand.tmp 20) 4, type := 0, pos := "ref.go:232", after := #[{ on := 8, ground := Ground.data }], guard := none }) (v := ?_) rfl (by kernel_rfl) (by kernel_rfl) (by kernel_rfl) (fun _ _ _ h => h) (Or.inl ⟨by rfl, ?_⟩) (by assumption) ?_
      rotate_left
      · (intro w hSw; go_simp; first | done | (with_reducible rfl))
      simp only [Act.put, List.setIfInBounds_toArray, List.set_cons_zero, List.set_cons_succ]
      refine wpAnyH_ready (rs := [10]) (by kernel_rfl) (by simp) ?_
      refine AllReadyH.cons (o := { dst := some 22, op := Op.load 92 (Operand.tmp 21), type := 92, pos := "ref.go:232", after := #[{ on := 9, ground := Ground.data }], guard := none }) rfl (fun K hK => ?_) AllReadyH.nil
      go_simp
      refine hK.out _ _ ⟨_, HSD.out⟩ (fun hHeld => ?_)
      clear hK K
      refine wpAnyH_ready (rs := [11]) (by kernel_rfl) (by simp) ?_
      refine AllReadyH.cons (o := { dst := some 23, op := Op.call { callee := Callee.value (Operand.func 84), args := #[Operand.tmp 22], argTypes := #[92] }, type := 92, pos := "ref.go:232", after := #[{ on := 10, ground := Ground.data }], guard := none }) rfl (fun K hK => ?_) AllReadyH.nil
      go_simp
      refine hTk.mono ?_
      rintro e wB ⟨rfl, gB⟩
      have SB := HSD.out.grown gB
      have s10 : wB.cell? ⟨p.sb, 10, none⟩ = some (iv r) := (SB.boxGet k0m).cellv 10 _ rfl
      have z10 : wB.frozen? ⟨p.sb, 10, none⟩ = false := (SB.boxGet k0m).frozen 10
      have s11 : wB.cell? ⟨p.sb, 11, none⟩ = some (iv (16 * u)) := (SB.boxGet k0m).cellv 11 _ rfl
      have z11 : wB.frozen? ⟨p.sb, 11, none⟩ = false := (SB.boxGet k0m).frozen 11
      have s12 : wB.cell? ⟨p.sb, 12, none⟩ = some (iv p.x.s.y) := (SB.boxGet k0m).cellv 12 _ rfl
      have z12 : wB.frozen? ⟨p.sb, 12, none⟩ = false := (SB.boxGet k0m).frozen 12
      have S5 := ((SB.boxPut 10 (iv r)).boxPut 11 (iv (16 * u))).boxPut 12 (iv yn)
      obtain ⟨W5, hW5⟩ : ∃ W5, ((wB.setCell ⟨p.sb, 10, none⟩ (iv r)).setCell ⟨p.sb, 11, none⟩ (iv (16 * u))).setCell ⟨p.sb, 12, none⟩ (iv yn) = W5 := ⟨_, rfl⟩
      rw [hW5] at S5
      have S5' : Sep w0 W5 (boxA p.sb (rsv r u p.wb { p.x with s := { p.x.s with y := yn } }) 94 :: hole) := S5
      have HS5 := Keep.mk S5'
      refine hK.out _ _ ⟨_, SB⟩ (fun hHeld => ?_)
      clear hK K hTk gB SB S5 S5' c10 c11 c12 HSD
      refine wpAnyH_take (i := 12) (oi := { dst := some 24, op := Op.nilCheck (Operand.tmp 15), type := 0, pos := "ref.go:232", after := #[{ on := 3, ground := Ground.data }, { on := 0, ground := Ground.phase }, { on := 1, ground := Ground.phase }, { on := 2, ground := Ground.phase }, { on := 3, ground := Ground.phase }, { on := 4, ground := Ground.phase }, { on := 5, ground := Ground.phase }, { on := 6, ground := Ground.phase }, { on := 7, ground := Ground.phase }, { on := 8, ground := Ground.phase }, { on := 9, ground := Ground.phase }, { on := 10, ground := Ground.phase }, { on := 11, ground := Ground.phase }], guard := none }) (v := ?_) rfl (by kernel_rfl) (by kernel_rfl) (by kernel_rfl) (fun _ _ _ h => h) (Or.inl ⟨by rfl, ?_⟩) (by assumption) ?_
      rotate_left
      · (intro w hSw; go_simp; first | done | (with_reducible rfl))
      simp only [Act.put, List.setIfInBounds_toArray, List.set_cons_zero, List.set_cons_succ]
      refine wpAnyH_take (i := 13) (oi := { dst := some 25, op := Op.fieldAddr 94 (Operand.tmp 24) 4, type := 0, pos := "ref.go:232", after := #[{ on := 12, ground := Ground.data }, { on := 0, ground := Ground.phase }, { on := 1, ground := Ground.phase }, { on := 2, ground := Ground.phase }, { on := 3, ground := Ground.phase }, { on := 4, ground := Ground.phase }, { on := 5, ground := Ground.phase }, { on := 6, ground := Ground.phase }, { on := 7, ground := Ground.phase }, { on := 8, ground := Ground.phase }, { on := 9, ground := Ground.phase }, { on := 10, ground := Ground.phase }, { on := 11, ground := Ground.phase }], guard := none }) (v := ?_) rfl (by kernel_rfl) (by kernel_rfl) (by kernel_rfl) (fun _ _ _ h => h) (Or.inl ⟨by rfl, ?_⟩) (by assumption) ?_
      rotate_left
      · (intro w hSw; go_simp; first | done | (with_reducible rfl))
      simp only [Act.put, List.setIfInBounds_toArray, List.set_cons_zero, List.set_cons_succ]
      refine wpAnyH_ready (rs := [14]) (by kernel_rfl) (by simp) ?_
      refine AllReadyH.cons (o := { dst := none, op := Op.store 92 (Operand.tmp 25) (Operand.tmp 23), type := 0, pos := "ref.go:232", after := #[{ on := 13, ground := Ground.data }, { on := 11, ground := Ground.data }, { on := 11, ground := Ground.chain }, { on := 0, ground := Ground.phase }, { on := 1, ground := Ground.phase }, { on := 2, ground := Ground.phase }, { on := 3, ground := Ground.phase }, { on := 4, ground := Ground.phase }, { on := 5, ground := Ground.phase }, { on := 6, ground := Ground.phase }, { on := 7, ground := Ground.phase }, { on := 8, ground := Ground.phase }, { on := 9, ground := Ground.phase }, { on := 10, ground := Ground.phase }, { on := 11, ground := Ground.phase }], guard := none }) rfl (fun K hK => ?_) AllReadyH.nil
      go_simp
      refine hK.out _ _ ⟨_, HS5.out⟩ (fun hHeld => ?_)
      clear hK K
      refine wpAnyH_done (by kernel_rfl) ?_ _

      have HNX := Keep.mk (HBK.out _ HS5.out)
      clear HS5 HBK hHeld HPTR
      go_wp2_with fail
      go_roundw
      case rel => exact ⟨i + 1, by omega, rfl, HNX⟩
      case measure => simp [intOf]; omega
    · have hi1 : ¬ (i : Int) < (n : Nat) := by omega
      obtain rfl : i = n := by omega
      have HF := Keep.mk (HFIN.out wr (Sep.tail (hS.out.perm List.perm_middle)))
      clear hS
      go_wp2_with fail
      go_end0
      exact ⟨rfl, HF.out⟩
end Go.Proofs.YtplcicbpkbamnabGreatDoor.Lo

/- LobbyPlays: the reference's Expire -/
namespace Go.Proofs.YtplcicbpkbamnabGreatDoor.Lo
open Go Go.RowKit Go.Maps

/-- it is gone -/
def gonS (x : Rs) : Rs := { x with g := true }
/-- those of the first i that live and were idle too long -/
def due (X : Lb) (tick : Nat) (ps : List Rp) (i : Nat) : List Rp := ((lvP ps).take i).filter fun z => slt X tick z.x.s
theorem due_succ {X : Lb} {tick : Nat} {ps : List Rp} {i : Nat} {p : Rp} (h : (lvP ps)[i]? = some p) : due X tick ps (i + 1) = if slt X tick p.x.s then due X tick ps i ++ [p] else due X tick ps i := by
  unfold due
  rw [List.take_add_one, h, List.filter_append]
  cases hs : slt X tick p.x.s <;> simp [hs]
theorem due_sub {X : Lb} {tick : Nat} {ps : List Rp} {i : Nat} : ∀ k ∈ (due X tick ps i).map (fun (z : Rp) => z.x.s.num), k ∈ ((lvP ps).take i).map fun (z : Rp) => z.x.s.num := by
  intro k hk
  obtain ⟨z, hz, rfl⟩ := List.mem_map.1 hk
  exact List.mem_map.2 ⟨z, (List.mem_filter.1 hz).1, rfl⟩
theorem lvY_gone (f : Se → Bool) (S : List Rs) : lvY (S.map fun x => if !x.g && f x.s then gonS x else x) = (lvY S).filter fun s => !f s := by
  induction S with
  | nil => rfl
  | cons x S ih =>
    rw [List.map_cons, lvY_cons, lvY_cons, ih]
    cases hg : x.g
    · cases hf : f x.s <;> simp [hf, hg, gonS]
    · simp [hg]
/-- where Expire stands -/
def exS (w0 wr : World) (kb : Nat) (X : Lb) (Y : Rl) (v1 v2 : Value) (ps : List Rp) (tick i : Nat) (v : Value) (l : List As) : Prop :=
  Sep w0 wr (rlobL kb { Y with S := (chg gonS ((due X tick ps i).map fun (z : Rp) => z.x.s.num) ps).map Rp.x } (v1, v2, chg gonS ((due X tick ps i).map fun (z : Rp) => z.x.s.num) ps) ++ rowV 49 7 v ((due X tick ps i).map fun (z : Rp) => z.x.s).length (lvs ((due X tick ps i).map fun (z : Rp) => z.x.s)) :: l)
set_option maxRecDepth 100000 in
set_option maxHeartbeats 16000000 in
theorem rexp_c (w0 W : World) (l : List As) (kb : Nat) (X : Lb) (Y : Rl) (tick : Nat) (h : Sep w0 W (rlobA kb Y :: l)) (hr : Rel X Y) (hn : Y.S.length ≤ 1000000) (ok : LbOk X) (hid : X.idle ≤ 100000) (ht : tick < 18446744073709551616) :
    Calls Tryz.prog 82 #[pt kb, uv tick] W fun e W' => ∃ v, e = .returned v ∧ ∃ Y', Sep w0 W' (rowV 49 7 v (expL X tick).length (lvs (expL X tick)) :: rlobA kb Y' :: l) ∧ Rel (expX X tick) Y' ∧ Y'.S.length = Y.S.length ∧ ∀ m, (∀ x ∈ Y.S, x.L.length ≤ m) → ∀ x ∈ Y'.S, x.L.length ≤ m := by
  obtain ⟨du, hdu, hdr⟩ := under42
  obtain ⟨q, h⟩ := h.opn
  obtain ⟨v1, v2, ps⟩ := q
  have hfact : ps.map Rp.x = Y.S := h.fact (l := rlobL kb Y (v1, v2, ps) ++ l) k0m
  have hnum : ∀ (i : Nat) (z : Rp), ps[i]? = some z → z.x.s.num = i + 1 := fun i z hz => hr.num i z.x (by rw [← hfact, List.getElem?_map, hz]; rfl)
  have hND := nums_nd hnum
  obtain ⟨n, hnn⟩ : ∃ n, (lvP ps).length = n := ⟨_, rfl⟩
  have hXS : (lvP ps).map (fun p => p.x.s) = X.S := by rw [lvP_s, hfact, hr.s]
  have hle : n ≤ 32 := by
    have h1 : X.S.length = n := by rw [← hXS, List.length_map, hnn]
    have := ok.le; have := ok.m2; omega
  have hHB : ∀ p ∈ lvP ps, p.x.s.heard < 18446744073709551616 := fun p hp => by
    have hm : p.x.s ∈ X.S := by rw [← hXS]; exact List.mem_map.2 ⟨p, hp, rfl⟩
    exact (ok.s p.x.s hm).2.2.2.2.2.1
  have hlv := rlives_o w0 W l kb Y (v1, v2, ps) h hn
  rw [hnn] at hlv
  have HX := Keep.mk (And.intro hfact (And.intro hND (And.intro hnn hHB)))
  have HID := Keep.mk hr.idle
  have HFIN : Keep (∀ W' v R, exS w0 W' kb X Y v1 v2 ps tick n v (R :: l) → ∃ Y', Sep w0 W' (rowV 49 7 v (expL X tick).length (lvs (expL X tick)) :: rlobA kb Y' :: l) ∧ Rel (expX X tick) Y' ∧ Y'.S.length = Y.S.length ∧ ∀ m, (∀ x ∈ Y.S, x.L.length ≤ m) → ∀ x ∈ Y'.S, x.L.length ≤ m) := ⟨fun W' v R hh => by
    have e0 : due X tick ps n = (lvP ps).filter (fun z => slt X tick z.x.s) := by unfold due; rw [List.take_of_length_le (by omega)]
    have e1 : (chg gonS ((due X tick ps n).map fun (z : Rp) => z.x.s.num) ps).map Rp.x = Y.S.map fun x => if !x.g && slt X tick x.s then gonS x else x := by
      rw [e0, chg_all hND, ← hfact, List.map_map, List.map_map]
      refine List.map_congr_left fun z _ => ?_
      show (if !z.x.g && slt X tick z.x.s then ({ z with x := gonS z.x } : Rp) else z).x = if !z.x.g && slt X tick z.x.s then gonS z.x else z.x
      split <;> rfl
    have e2 : (due X tick ps n).map (fun (z : Rp) => z.x.s) = expL X tick := by
      unfold expL
      rw [e0, ← hXS, List.filter_map]
      rfl
    unfold exS at hh
    rw [e2] at hh
    have h1 := hh.perm List.perm_middle
    have h2 : Sep w0 W' (rlobL kb { Y with S := (chg gonS ((due X tick ps n).map fun (z : Rp) => z.x.s.num) ps).map Rp.x } (v1, v2, chg gonS ((due X tick ps n).map fun (z : Rp) => z.x.s.num) ps) ++ R :: (rowV 49 7 v (expL X tick).length (lvs (expL X tick)) :: l)) := hh.perm (List.Perm.append_left _ (List.Perm.swap ..))
    have h3 := Sep.tail (h2.perm List.perm_middle)
    refine ⟨_, (Sep.cls (rlobL kb _) _ h3).swap, ?_, ?_, ?_⟩
    · show Rel (expX X tick) { Y with S := (chg gonS ((due X tick ps n).map fun (z : Rp) => z.x.s.num) ps).map Rp.x }
      rw [e1]
      refine ⟨?_, hr.a, hr.most, hr.r, hr.u, hr.idle, ?_, fun i x hx => ?_, fun x hx => ?_⟩
      · show (X.S.filter fun s => !slt X tick s) = _
        rw [lvY_gone, hr.s]
      · show X.next = (Y.S.map _).length + 1
        rw [List.length_map]; exact hr.next
      · obtain ⟨y, hy, rfl⟩ : ∃ y, Y.S[i]? = some y ∧ (if !y.g && slt X tick y.s then gonS y else y) = x := by
          have hx : (Y.S.map fun x => if !x.g && slt X tick x.s then gonS x else x)[i]? = some x := hx
          rw [List.getElem?_map] at hx
          exact Option.map_eq_some_iff.1 hx
        rw [← hr.num i y hy]
        split <;> rfl
      · obtain ⟨y, hy, rfl⟩ := List.mem_map.1 hx
        have hk := hr.ok y hy
        split
        · exact ⟨hk.inv, hk.len, hk.lt⟩
        · exact hk
    · show ((chg gonS ((due X tick ps n).map fun (z : Rp) => z.x.s.num) ps).map Rp.x).length = _
      rw [e1, List.length_map]
    · intro m hm x hx
      have hx : x ∈ (chg gonS ((due X tick ps n).map fun (z : Rp) => z.x.s.num) ps).map Rp.x := hx
      rw [e1] at hx
      obtain ⟨y, hy, rfl⟩ := List.mem_map.1 hx
      have := hm y hy
      split <;> exact this⟩
  clear h hr hn ok hXS hnn hfact hND hHB hnum
  go_enter Tryz.func82, Tryz.ntmps82
  go_wp2_with fail
  refine hlv.mono ?_
  rintro e w1 ⟨vp, rfl, S1⟩
  obtain ⟨pa, pc', hvp⟩ := own_slice (S1.rowGet k0m)
  subst hvp
  obtain ⟨R, hR⟩ : ∃ R : As, rowV 95 1 (.slice pa n pc') n ((lvP ps).map fun (z : Rp) => pt z.sb) = R := ⟨_, rfl⟩
  have HRR := Keep.mk hR
  have HS : Keep (exS w0 w1 kb X Y v1 v2 ps tick 0 (.slice none 0 0) (R :: l)) := ⟨by
    unfold exS due
    rw [List.take_zero, List.filter_nil, List.map_nil, chg_nil, HX.out.1, ← hR]
    refine Sep.perm ?_ (List.perm_middle).symm
    exact (S1.perm (List.perm_middle).symm).nilV 49 7⟩
  clear hlv S1 hR
  go_wp2_with fail
  go_loopw [5, 7] (fun v u wr => ∃ i : Nat, i ≤ n ∧ u = iv i ∧ (∃ a c, v = .slice a (due X tick ps i).length c) ∧ Keep (exS w0 wr kb X Y v1 v2 ps tick i v (R :: l))) (fun _ u _ => (n - intOf u).toNat)
  case atStart => exact ⟨0, by omega, rfl, ⟨none, 0, rfl⟩, HS⟩
  case round =>
    clear HS
    obtain ⟨i, hi, rfl, ⟨av, cv, rfl⟩, hS⟩ := hrel
    by_cases hlt : i < n
    · obtain ⟨p, hp⟩ : ∃ p, (lvP ps)[i]? = some p := ⟨_, List.getElem?_eq_getElem (by rw [HX.out.2.2.1]; exact hlt)⟩
      obtain ⟨A, C, ea, eb⟩ := chg_step (f := gonS) (ns := (due X tick ps i).map fun (z : Rp) => z.x.s.num) HX.out.2.1 hp due_sub
      have hDU := due_succ (X := X) (tick := tick) hp
      have hS1 := hS.out
      unfold exS at hS1
      rw [ea] at hS1
      obtain ⟨hole, hm1, hm2, hS2, hBK⟩ := rl_op hS1
      have hd := HX.out.2.2.2 p (List.mem_of_getElem? hp)
      have hrow : ∀ W' cs, Sep w0 W' (boxA p.sb cs 94 :: hole) → W'.ownsRow 0 95 1 (.slice pa n pc') (lvP ps).length ((lvP ps).map fun (z : Rp) => pt z.sb) := fun W' cs hh => by
        rw [HX.out.2.2.1]
        refine hh.rowGet (List.mem_cons_of_mem _ ?_)
        rw [HRR.out]
        exact hm1 R (List.mem_cons_of_mem _ (List.mem_cons_self ..))
      obtain ⟨g, c, e, g0⟩ := row_ptr (hrow wr _ hS2) hp
      rw [HX.out.2.2.1] at e
      injection e with e1 e2 e3
      have hptr : ∀ W' cs, Sep w0 W' (boxA p.sb cs 94 :: hole) → W'.cell? ⟨g, i, none⟩ = some (pt p.sb) := fun W' cs hh => by
        obtain ⟨g', c', e', g0'⟩ := row_ptr (hrow W' cs hh) hp
        rw [e1] at e'
        injection e' with e1' _ _
        injection e1' with e1'
        injection e1' with e1'
        rw [e1']
        exact g0'
      have s4 : wr.cell? ⟨p.sb, 4, none⟩ = some (uv p.x.s.heard) := (hS2.boxGet k0m).cellv 4 _ rfl
      have k6 : wr.cell? ⟨kb, 6, none⟩ = some (iv Y.c.idle) := (hS2.boxGet (List.mem_cons_of_mem _ hm2)).cellv 6 _ rfl
      rw [← HID.out] at k6
      have hi0 : (0 : Int) ≤ (i : Int) := by omega
      have hi1 : (i : Int) < (n : Nat) := by omega
      have hti : ((i : Nat) : Int).toNat = i := by omega
      have hwi : IntKind.i64.wrap ((i : Int) + 1) = ((i + 1 : Nat) : Int) := by rw [wi _ (by omega) (by omega)]; omega
      have hle2 : (due X tick ps i).length ≤ i := by
        unfold due
        have h1 := List.length_filter_le (fun z : Rp => slt X tick z.x.s) ((lvP ps).take i)
        have h2 := List.length_take_le i (lvP ps)
        omega
      obtain ⟨m, hm⟩ : ∃ m, (due X tick ps i).length = m := ⟨_, rfl⟩
      by_cases hsl : X.idle < tick - p.x.s.heard
      · have hs1 : slt X tick p.x.s = true := decide_eq_true hsl
        rw [hs1, if_pos rfl] at hDU
        have x1 : (p.x.s.heard : Int) < (tick : Nat) := by omega
        obtain ⟨dd, hdd⟩ : ∃ dd, tick - p.x.s.heard = dd := ⟨_, rfl⟩
        have x2 : IntKind.u64.wrap ((tick : Int) - (p.x.s.heard : Nat)) = (dd : Nat) := by
          unfold IntKind.wrap; simp [IntKind.signed, IntKind.bits]; omega
        have x3 : IntKind.u64.wrap (X.idle : Int) = (X.idle : Nat) := by
          unfold IntKind.wrap; simp [IntKind.signed, IntKind.bits]; omega
        have x4 : (X.idle : Int) < (dd : Nat) := by omega
        have s13 : wr.cell? ⟨p.sb, 13, none⟩ = some (.bool p.x.g) := (hS2.boxGet k0m).cellv 13 _ rfl
        have z13 : wr.frozen? ⟨p.sb, 13, none⟩ = false := (hS2.boxGet k0m).frozen 13
        have S3 := hS2.boxPut 13 (.bool true)
        obtain ⟨W3, hW3⟩ : ∃ W3, wr.setCell ⟨p.sb, 13, none⟩ (.bool true) = W3 := ⟨_, rfl⟩
        rw [hW3] at S3
        have S3' : Sep w0 W3 (boxA p.sb (rsv Y.c.rate Y.c.burst p.wb (gonS p.x)) 94 :: hole) := S3
        have g3 := hptr W3 _ S3'
        have RNG := Keep.mk (rs_lv (S3'.boxGet k0m))
        have S4 := hBK W3 (gonS p.x) rfl rfl S3'
        rw [← eb] at S4
        have S5 := S4.perm List.perm_middle
        obtain ⟨g2, c2, W2, r1, _, S6⟩ := S5.app7 p.x.s (by rw [List.length_map]; omega)
        rw [List.length_map, hm] at r1 S6
        obtain ⟨m1, hm1'⟩ : ∃ m1, m + 1 = m1 := ⟨_, rfl⟩
        rw [hm1'] at r1 S6
        have HNX : Keep ((due X tick ps (i + 1)).length = m1 ∧ exS w0 W2 kb X Y v1 v2 ps tick (i + 1) (.slice (some ⟨g2, 0, none⟩) m1 c2) (R :: l)) := ⟨by
          refine ⟨by rw [hDU, List.length_append, hm]; exact hm1', ?_⟩
          unfold exS
          rw [hDU, List.map_append, List.map_append]
          exact S6.perm (List.perm_middle).symm⟩
        have HA := Keep.mk r1
        have HBS := Keep.mk (bs43 W3 p.x.s)
        obtain ⟨lv, hlv⟩ : ∃ lv, lvc p.x.s = lv := ⟨_, rfl⟩
        have HL7 : Keep (lv.length = 7) := ⟨by rw [← hlv]; rfl⟩
        have RNG : Keep (W3.rangeAt p.sb 0 lv) := ⟨by rw [← hlv]; exact RNG.out⟩
        rw [hlv] at HA HBS
        rw [hm]
        subst e1 e3
        clear hS hp ea eb hDU hS1 hm1 hm2 hS2 hBK hd hrow e2 hptr hle2 hsl hs1 hdd S3 S3' S4 S5 S6 r1 hlv hm hm1' hid ht HID
        go_wp2_with (first
          | (show wpList _ _ _ ({ dst := _, op := Op.load 49 _, type := _, pos := _, after := _, guard := _ } :: _) _ _
             refine wpList_load_mid rfl 49 _ rfl _ _ rfl _ _ RNG.out hdu hdr (by rw [HL7.out]; exact info42) ?_)
          | (show wpList _ _ _ ({ dst := _, op := Op.buildSlice 43 _ _, type := _, pos := _, after := _, guard := _ } :: _) _ _
             refine wpList_bs_run rfl (.tmp 53) 43 rfl _ rfl HBS.out ?_)
          | (at_builtin; refine wpList_append_run _ rfl (.tmp 46) (.tmp 54) 43 rfl _ _ rfl rfl HA.out ?_))
        go_roundw
        case rel => exact ⟨i + 1, by omega, rfl, ⟨_, _, by rw [HNX.out.1]⟩, ⟨HNX.out.2⟩⟩
        case measure => simp [intOf]; omega
      · have hs1 : slt X tick p.x.s = false := decide_eq_false hsl
        rw [hs1, if_neg (by simp)] at hDU
        have HNX : Keep ((due X tick ps (i + 1)).length = m ∧ exS w0 wr kb X Y v1 v2 ps tick (i + 1) (.slice av m cv) (R :: l)) := ⟨by
          refine ⟨by rw [hDU, hm], ?_⟩
          have := hS.out
          unfold exS at this ⊢
          rw [hDU, ← hm]
          exact this⟩
        rw [hm]
        subst e1 e3
        clear hS hp ea eb hDU hS1 hm1 hm2 hS2 hBK hrow e2 hptr hle2 hs1 hm
        by_cases x0 : p.x.s.heard < tick
        · have x1 : (p.x.s.heard : Int) < (tick : Nat) := by omega
          obtain ⟨dd, hdd⟩ : ∃ dd, tick - p.x.s.heard = dd := ⟨_, rfl⟩
          have x2 : IntKind.u64.wrap ((tick : Int) - (p.x.s.heard : Nat)) = (dd : Nat) := by
            unfold IntKind.wrap; simp [IntKind.signed, IntKind.bits]; omega
          have x3 : IntKind.u64.wrap (X.idle : Int) = (X.idle : Nat) := by
            unfold IntKind.wrap; simp [IntKind.signed, IntKind.bits]; omega
          have x4 : ¬ (X.idle : Int) < (dd : Nat) := by omega
          clear hsl hdd x0 hd hid ht HID
          go_wp2_with fail
          go_roundw
          case rel => exact ⟨i + 1, by omega, rfl, ⟨_, _, by rw [HNX.out.1]⟩, ⟨HNX.out.2⟩⟩
          case measure => simp [intOf]; omega
        · have x1 : ¬ (p.x.s.heard : Int) < (tick : Nat) := by omega
          clear hsl x0 hd hid ht HID
          go_wp2_with fail
          go_roundw
          case rel => exact ⟨i + 1, by omega, rfl, ⟨_, _, by rw [HNX.out.1]⟩, ⟨HNX.out.2⟩⟩
          case measure => simp [intOf]; omega
    · have hi1 : ¬ (i : Int) < (n : Nat) := by omega
      obtain rfl : i = n := by omega
      obtain ⟨m, hm⟩ : ∃ m, (due X tick ps i).length = m := ⟨_, rfl⟩
      rw [hm] at hS ⊢
      have HF := Keep.mk (HFIN.out wr _ _ hS.out)
      clear hS hm
      go_wp2_with fail
      go_ret
      obtain ⟨Y', q1, q2⟩ := HF.out
      exact ⟨_, rfl, Y', q1, q2⟩
end Go.Proofs.YtplcicbpkbamnabGreatDoor.Lo

