import Derived.Test.YtplcicbpkbamnabGreatDoorX32
import Derived.Test.YtplcicbpkbamnabGreatDoorX22
/- LobbyPlays: the program's lobby and the reference's; one session is taken out and laid back -/
namespace Go.Proofs.YtplcicbpkbamnabGreatDoor.Lo
open Go Go.RowKit Go.Maps

/-- the account of a pair -/
def acOf (p : Pr) : Ac := ⟨p.1, Na.sl p.2⟩
/-- those that live -/
def lvY (S : List Rs) : List Se := (S.filter fun x => !x.g).map Rs.s
theorem lvY_app (A B : List Rs) : lvY (A ++ B) = lvY A ++ lvY B := by simp [lvY]
theorem lvY_cons (x : Rs) (C : List Rs) : lvY (x :: C) = if x.g then lvY C else x.s :: lvY C := by
  unfold lvY
  rw [List.filter_cons]
  cases x.g <;> simp
/-- what is fine of a session -/
structure RsOk (x : Rs) : Prop where
  inv : Wi.Inv x.s.wh x.s.wb x.L
  len : x.L.length ≤ 900
  lt : ∀ z ∈ x.L, z < 18446744073709551616
/-- the two are alike -/
structure Rel (X : Lb) (Y : Rl) : Prop where
  s : X.S = lvY Y.S
  a : X.A = Y.P.map acOf
  most : (X.most : Int) = Y.c.ses
  r : X.r = Y.c.rate
  u : X.u = Y.c.burst
  idle : (X.idle : Int) = Y.c.idle
  next : X.next = Y.S.length + 1
  num : ∀ i x, Y.S[i]? = some x → x.s.num = i + 1
  ok : ∀ x ∈ Y.S, RsOk x
theorem Rel.ne {X : Lb} {Y : Rl} (h : Rel X Y) {A C : List Rs} {x : Rs} (e : Y.S = A ++ x :: C) : (∀ z ∈ A, z.s.num ≠ x.s.num) ∧ (∀ z ∈ C, z.s.num ≠ x.s.num) := by
  have hx : x.s.num = A.length + 1 := h.num A.length x (by rw [e, List.getElem?_append_right (by omega), Nat.sub_self]; rfl)
  refine ⟨fun z hz => ?_, fun z hz => ?_⟩
  · obtain ⟨j, hj, ez⟩ := List.getElem_of_mem hz
    have := h.num j z (by rw [e, List.getElem?_append_left hj, List.getElem?_eq_getElem hj, ez])
    omega
  · obtain ⟨j, hj, ez⟩ := List.getElem_of_mem hz
    have := h.num (A.length + 1 + j) z (by rw [e, List.getElem?_append_right (by omega), show A.length + 1 + j - A.length = j + 1 by omega, List.getElem?_cons_succ, List.getElem?_eq_getElem hj, ez])
    omega
theorem lvY_num {S : List Rs} {n : Nat} (h : ∀ z ∈ S, z.s.num ≠ n) : ∀ s ∈ lvY S, s.num ≠ n := by
  intro s hs
  obtain ⟨z, hz, rfl⟩ := List.mem_map.1 hs
  exact h z (List.mem_filter.1 hz).1
theorem map_no {S : List Se} {k : Nat} {s' : Se} (h : ∀ s ∈ S, s.num ≠ k) : (S.map fun s => if s.num = k then s' else s) = S := by
  conv => rhs; rw [← List.map_id S]
  exact List.map_congr_left fun s hs => if_neg (h s hs)
/-- a session's place in the list -/
theorem nums_set {X : Lb} {Y : Rl} (h : Rel X Y) {A C : List Rs} {x x' : Rs} (e : Y.S = A ++ x :: C) (hn : x'.s.num = x.s.num) : ∀ i z, (A ++ x' :: C)[i]? = some z → z.s.num = i + 1 := by
  intro i z hz
  by_cases h1 : i < A.length
  · rw [List.getElem?_append_left h1] at hz
    exact h.num i z (by rw [e, List.getElem?_append_left h1]; exact hz)
  · by_cases h2 : i = A.length
    · subst h2
      rw [List.getElem?_append_right (by omega), Nat.sub_self] at hz
      obtain rfl : x' = z := by simpa using hz
      rw [hn]
      exact h.num A.length x (by rw [e, List.getElem?_append_right (by omega), Nat.sub_self]; rfl)
    · rw [List.getElem?_append_right (by omega), show i - A.length = (i - A.length - 1) + 1 by omega, List.getElem?_cons_succ] at hz
      exact h.num i z (by rw [e, List.getElem?_append_right (by omega), show i - A.length = (i - A.length - 1) + 1 by omega, List.getElem?_cons_succ]; exact hz)
theorem Rel.upd {X : Lb} {Y : Rl} (h : Rel X Y) {A C : List Rs} {x x' : Rs} {k : Nat} (e : Y.S = A ++ x :: C) (hk : x.s.num = k) (hg : x.g = false) (hn : x'.s.num = k) (hg' : x'.g = false) (ok : RsOk x') : Rel (upd X k x'.s) { Y with S := A ++ x' :: C } := by
  obtain ⟨n1, n2⟩ := h.ne e
  rw [hk] at n1 n2
  refine ⟨?_, h.a, h.most, h.r, h.u, h.idle, ?_, nums_set h e (by rw [hn, hk]), fun z hz => ?_⟩
  · show (X.S.map fun s => if s.num = k then x'.s else s) = _
    rw [h.s, e, lvY_app, lvY_app, lvY_cons, lvY_cons, hg, hg', List.map_append, map_no (lvY_num n1)]
    simp only [Bool.false_eq_true, if_false, List.map_cons]
    rw [if_pos hk, map_no (lvY_num n2)]
  · show X.next = _
    rw [h.next, e]; simp
  · rcases List.mem_append.1 hz with q | q
    · exact h.ok z (by rw [e]; exact List.mem_append_left _ q)
    · rcases List.mem_cons.1 q with rfl | q
      · exact ok
      · exact h.ok z (by rw [e]; exact List.mem_append_right _ (List.mem_cons_of_mem _ q))
theorem Rel.del {X : Lb} {Y : Rl} (h : Rel X Y) {A C : List Rs} {x x' : Rs} {k : Nat} (e : Y.S = A ++ x :: C) (hk : x.s.num = k) (hg : x.g = false) (hn : x'.s.num = k) (hg' : x'.g = true) (ok : RsOk x') : Rel (del X k) { Y with S := A ++ x' :: C } := by
  obtain ⟨n1, n2⟩ := h.ne e
  rw [hk] at n1 n2
  refine ⟨?_, h.a, h.most, h.r, h.u, h.idle, ?_, nums_set h e (by rw [hn, hk]), fun z hz => ?_⟩
  · show (X.S.filter fun s => decide (s.num ≠ k)) = _
    rw [h.s, e, lvY_app, lvY_app, lvY_cons, lvY_cons, hg, hg', List.filter_append]
    simp only [Bool.false_eq_true, if_false, if_true]
    rw [List.filter_cons, if_neg (by simp [hk]), List.filter_eq_self.2 (fun s hs => decide_eq_true (lvY_num n1 s hs)), List.filter_eq_self.2 (fun s hs => decide_eq_true (lvY_num n2 s hs))]
  · show X.next = _
    rw [h.next, e]; simp
  · rcases List.mem_append.1 hz with q | q
    · exact h.ok z (by rw [e]; exact List.mem_append_left _ q)
    · rcases List.mem_cons.1 q with rfl | q
      · exact ok
      · exact h.ok z (by rw [e]; exact List.mem_append_right _ (List.mem_cons_of_mem _ q))
/-- the session that lives under a number, here and there -/
theorem fds_rel : ∀ (S : List Rs) (k : Nat), (lvY S).find? (fun s => decide (s.num = k)) = (S.find? fun x => decide (x.s.num = k) && !x.g).map Rs.s
  | [], k => rfl
  | x :: r, k => by
    rw [lvY_cons, List.find?_cons]
    cases hg : x.g with
    | true =>
      rw [if_pos rfl]
      simp only [Bool.not_true, Bool.and_false]
      exact fds_rel r k
    | false =>
      simp only [Bool.false_eq_true, if_false, Bool.not_false, Bool.and_true]
      rw [List.find?_cons]
      cases hd : decide (x.s.num = k) with
      | true => rfl
      | false => exact fds_rel r k
theorem Rel.fds {X : Lb} {Y : Rl} (h : Rel X Y) {ps : List Rp} (hp : ps.map Rp.x = Y.S) (k : Nat) : fds X k = (ps.find? (lvp k)).map fun p => p.x.s := by
  unfold Lo.fds
  rw [h.s, fds_rel, ← hp, List.find?_map, Option.map_map]
  rfl
theorem perm_mid3 (K A M C l : List As) : (K ++ ((A ++ (M ++ C)) ++ l)).Perm (M ++ (K ++ (A ++ (C ++ l)))) := by
  have e1 : K ++ ((A ++ (M ++ C)) ++ l) = (K ++ A) ++ (M ++ (C ++ l)) := by simp [List.append_assoc]
  have e2 : M ++ (K ++ (A ++ (C ++ l))) = M ++ ((K ++ A) ++ (C ++ l)) := by simp [List.append_assoc]
  rw [e1, e2]
  exact List.perm_append_comm_assoc ..
/-- a session that lives is taken out, and laid back -/
theorem rl_at {w0 W : World} {l : List As} {kb k : Nat} {Y : Rl} {q : Value × Value × List Rp} {p : Rp} (h : Sep w0 W (rlobL kb Y q ++ l)) (hf : q.2.2.find? (lvp k) = some p) :
    ∃ (A C : List Rs) (hole : List As), Y.S = A ++ p.x :: C ∧ p.x.s.num = k ∧ p.x.g = false ∧ Sep w0 W (boxA p.sb (rsv Y.c.rate Y.c.burst p.wb p.x) 94 :: boxA p.wb [p.sv, uv p.x.s.wh] 135 :: rowV 38 1 p.sv p.x.L.length (p.x.L.map uv) :: hole) ∧
      ∀ W' x' sv', Sep w0 W' (boxA p.sb (rsv Y.c.rate Y.c.burst p.wb x') 94 :: boxA p.wb [sv', uv x'.s.wh] 135 :: rowV 38 1 sv' x'.L.length (x'.L.map uv) :: hole) → Sep w0 W' (rlobA kb { Y with S := A ++ x' :: C } :: l) := by
  obtain ⟨v1, v2, ps⟩ := q
  have hfact : ps.map Rp.x = Y.S := h.fact (l := rlobL kb Y (v1, v2, ps) ++ l) k0m
  obtain ⟨hp, A, C, hs, _⟩ := List.find?_eq_some_iff_append.1 hf
  have hs : ps = A ++ p :: C := hs
  have hp : (decide (p.x.s.num = k) && !p.x.g) = true := hp
  simp only [Bool.and_eq_true, decide_eq_true_eq, Bool.not_eq_true'] at hp
  have hfm : ps.flatMap (rsA Y.c.rate Y.c.burst) = A.flatMap (rsA Y.c.rate Y.c.burst) ++ (rsA Y.c.rate Y.c.burst p ++ C.flatMap (rsA Y.c.rate Y.c.burst)) := by rw [hs]; simp
  let H : List As := boxA kb ((cfv Y.c v1).toList ++ [v2]) 78 :: prow v1 Y.P :: rowV 95 1 v2 Y.S.length (ps.map fun (z : Rp) => pt z.sb) :: (A.flatMap (rsA Y.c.rate Y.c.burst) ++ (C.flatMap (rsA Y.c.rate Y.c.burst) ++ l))
  refine ⟨A.map Rp.x, C.map Rp.x, H, by rw [← hfact, hs]; simp, hp.1, hp.2, ?_, fun W' x' sv' hS => ?_⟩
  · have h2 : Sep w0 W (boxA kb ((cfv Y.c v1).toList ++ [v2]) 78 :: prow v1 Y.P :: rowV 95 1 v2 Y.S.length (ps.map fun (z : Rp) => pt z.sb) :: (ps.flatMap (rsA Y.c.rate Y.c.burst) ++ l)) := h.tail
    rw [hfm] at h2
    refine h2.perm ?_
    exact perm_mid3 [boxA kb ((cfv Y.c v1).toList ++ [v2]) 78, prow v1 Y.P, rowV 95 1 v2 Y.S.length (ps.map fun (z : Rp) => pt z.sb)] (A.flatMap (rsA Y.c.rate Y.c.burst)) (rsA Y.c.rate Y.c.burst p) (C.flatMap (rsA Y.c.rate Y.c.burst)) l
  · refine Sep.cls (rlobL kb { Y with S := A.map Rp.x ++ x' :: C.map Rp.x }) (v1, v2, A ++ ⟨p.sb, p.wb, sv', x'⟩ :: C) ?_
    have h3 := hS.perm (perm_mid3 [boxA kb ((cfv Y.c v1).toList ++ [v2]) 78, prow v1 Y.P, rowV 95 1 v2 Y.S.length (ps.map fun (z : Rp) => pt z.sb)] (A.flatMap (rsA Y.c.rate Y.c.burst)) (rsA Y.c.rate Y.c.burst ⟨p.sb, p.wb, sv', x'⟩) (C.flatMap (rsA Y.c.rate Y.c.burst)) l).symm
    have e1 : (A ++ (⟨p.sb, p.wb, sv', x'⟩ : Rp) :: C).flatMap (rsA Y.c.rate Y.c.burst) = A.flatMap (rsA Y.c.rate Y.c.burst) ++ (rsA Y.c.rate Y.c.burst ⟨p.sb, p.wb, sv', x'⟩ ++ C.flatMap (rsA Y.c.rate Y.c.burst)) := by simp
    have e2 : (A.map Rp.x ++ x' :: C.map Rp.x).length = Y.S.length := by rw [← hfact, hs]; simp
    have e3 : ((A ++ (⟨p.sb, p.wb, sv', x'⟩ : Rp) :: C).map fun (z : Rp) => pt z.sb) = ps.map fun (z : Rp) => pt z.sb := by rw [hs]; simp
    have h4 := h3.know (p := (A ++ (⟨p.sb, p.wb, sv', x'⟩ : Rp) :: C).map Rp.x = A.map Rp.x ++ x' :: C.map Rp.x) (by simp)
    show Sep w0 W' (pureA ((A ++ (⟨p.sb, p.wb, sv', x'⟩ : Rp) :: C).map Rp.x = A.map Rp.x ++ x' :: C.map Rp.x) :: boxA kb ((cfv Y.c v1).toList ++ [v2]) 78 :: prow v1 Y.P :: rowV 95 1 v2 (A.map Rp.x ++ x' :: C.map Rp.x).length ((A ++ (⟨p.sb, p.wb, sv', x'⟩ : Rp) :: C).map fun (z : Rp) => pt z.sb) :: ((A ++ (⟨p.sb, p.wb, sv', x'⟩ : Rp) :: C).flatMap (rsA Y.c.rate Y.c.burst) ++ l))
    rw [e1, e2, e3]
    exact h4
end Go.Proofs.YtplcicbpkbamnabGreatDoor.Lo

/- LobbyPlays: the reference's Key, Token, Check, Sent, Find, Leave, Next -/
namespace Go.Proofs.YtplcicbpkbamnabGreatDoor.Lo
open Go Go.RowKit Go.Maps

/-- a lobby of the reference's is opened, and a session looked for -/
theorem rl_find {w0 W : World} {l : List As} {kb : Nat} {X : Lb} {Y : Rl} (k : Nat) (h : Sep w0 W (rlobA kb Y :: l)) (hr : Rel X Y) (hn : Y.S.length ≤ 1000000) :
    ∃ F, Calls Tryz.prog 75 #[pt kb, uv k] W (fun e W' => e = .returned F ∧ W' = W) ∧
      ((F = np ∧ fds X k = none) ∨ ∃ (p : Rp) (A C : List Rs) (hole : List As), F = pt p.sb ∧ fds X k = some p.x.s ∧ Y.S = A ++ p.x :: C ∧ p.x.s.num = k ∧ p.x.g = false ∧ Sep w0 W (boxA p.sb (rsv X.r X.u p.wb p.x) 94 :: boxA p.wb [p.sv, uv p.x.s.wh] 135 :: rowV 38 1 p.sv p.x.L.length (p.x.L.map uv) :: hole) ∧
        ∀ W' x' sv', Sep w0 W' (boxA p.sb (rsv X.r X.u p.wb x') 94 :: boxA p.wb [sv', uv x'.s.wh] 135 :: rowV 38 1 sv' x'.L.length (x'.L.map uv) :: hole) → Sep w0 W' (rlobA kb { Y with S := A ++ x' :: C } :: l)) := by
  obtain ⟨q, h⟩ := h.opn
  have hfact : q.2.2.map Rp.x = Y.S := h.fact (l := rlobL kb Y q ++ l) k0m
  have hfo := find_o W kb k Y q (rd_of h) hn
  refine ⟨_, hfo, ?_⟩
  have hfd := hr.fds hfact k
  cases hf : q.2.2.find? (lvp k) with
  | none =>
    rw [hf] at hfd
    exact .inl ⟨by unfold fptr; rw [hf], hfd⟩
  | some p =>
    rw [hf] at hfd
    obtain ⟨A, C, hole, e1, e2, e3, e4, e5⟩ := rl_at h hf
    rw [← hr.r, ← hr.u] at e4 e5
    exact .inr ⟨p, A, C, hole, by unfold fptr; rw [hf], hfd, e1, e2, e3, e4, e5⟩
theorem same_Y {Y : Rl} {A C : List Rs} {x : Rs} (e : Y.S = A ++ x :: C) : ({ Y with S := A ++ x :: C } : Rl) = Y := by rw [← e]
set_option maxRecDepth 100000 in
set_option maxHeartbeats 8000000 in
theorem rkey_c (w0 W : World) (l : List As) (kb : Nat) (X : Lb) (Y : Rl) (k : Nat) (h : Sep w0 W (rlobA kb Y :: l)) (hr : Rel X Y) (hn : Y.S.length ≤ 1000000) :
    Calls Tryz.prog 42 #[pt kb, uv k] W fun e W' => e = .returned (.tuple #[.string (keyS X k), .bool (fds X k).isSome]) ∧ W' = W := by
  obtain ⟨F, hfo, hc⟩ := rl_find k h hr hn
  clear h hr hn
  rcases hc with ⟨rfl, hf⟩ | ⟨p, A, C, hole, rfl, hf, _, _, _, hS, _⟩
  · have HR : Keep (keyS X k = ⟨#[]⟩ ∧ (fds X k).isSome = false) := ⟨by unfold keyS; rw [hf]; exact ⟨rfl, rfl⟩⟩
    clear hf
    go_enter Tryz.func42, Tryz.ntmps42
    go_wp2_with fail
    refine hfo.mono ?_
    rintro e w1 ⟨rfl, hw⟩
    subst hw
    clear hfo
    go_wp2_with fail
    go_ret2
    rw [HR.out.1, HR.out.2]
    exact ⟨rfl, rfl⟩
  · have HR : Keep (keyS X k = txt p.x.s.key ∧ (fds X k).isSome = true) := ⟨by unfold keyS; rw [hf]; exact ⟨rfl, rfl⟩⟩
    have c8 : W.cell? ⟨p.sb, 8, none⟩ = some (.string (txt p.x.s.key)) := (hS.boxGet k0m).cellv 8 _ rfl
    generalize txt p.x.s.key = ky at HR c8
    clear hf hS
    go_enter Tryz.func42, Tryz.ntmps42
    go_wp2_with fail
    refine hfo.mono ?_
    rintro e w1 ⟨rfl, hw⟩
    subst hw
    clear hfo
    go_wp2_with fail
    go_ret2
    rw [HR.out.1, HR.out.2]
    exact ⟨rfl, rfl⟩
set_option maxRecDepth 100000 in
theorem rw_of {w0 W : World} {l : List As} {wb h : Nat} {sv : Value} {L : List Nat} (hS : Sep w0 W l) (h1 : boxA wb [sv, uv h] 135 ∈ l) (h2 : rowV 38 1 sv L.length (L.map uv) ∈ l) (hn : L.length ≤ 1000) (hlt : ∀ x ∈ L, x < 18446744073709551616) : ∃ a c, sv = .slice a L.length c ∧ Wi.RW W wb a L.length c L h := by
  have hb := hS.boxGet h1
  have hr := hS.rowGet h2
  rcases Nat.eq_zero_or_pos L.length with hz | hz
  · obtain ⟨a, c, e⟩ := own_slice hr
    refine ⟨a, c, e, ⟨by rw [← e]; exact hb, ⟨rfl, fun hh => by omega⟩, hn⟩⟩
  · obtain ⟨g, c, e, hc⟩ := own_any hr hz
    refine ⟨_, c, e, ⟨by rw [← e]; exact hb, ⟨rfl, fun _ => ⟨g, 0, rfl, fun j x hx => ⟨?_, ?_⟩⟩⟩, hn⟩⟩
    · rw [Nat.zero_add]
      exact (hc j (uv x) (by rw [List.getElem?_map, hx]; rfl)).1
    · have := hlt x (List.mem_of_getElem? hx)
      simp [IntKind.bits]; omega
set_option maxRecDepth 100000 in
set_option maxHeartbeats 8000000 in
theorem rchk_c (w0 W : World) (l : List As) (kb : Nat) (X : Lb) (Y : Rl) (k q : Nat) (h : Sep w0 W (rlobA kb Y :: l)) (hr : Rel X Y) (hn : Y.S.length ≤ 1000000) (ok : LbOk X) (hq : q < 18446744073709551616) :
    Calls Tryz.prog 30 #[pt kb, uv k, uv q] W fun e W' => e = .returned (iv (chkS X k q)) ∧ W' = W := by
  obtain ⟨F, hfo, hc⟩ := rl_find k h hr hn
  rcases hc with ⟨rfl, hf⟩ | ⟨p, A, C, hole, rfl, hf, hY, _, _, hS, _⟩
  · have HR : Keep (chkS X k q = 122) := ⟨by unfold chkS; rw [hf]; rfl⟩
    clear hf h hr hn ok
    go_enter Tryz.func30, Tryz.ntmps30
    go_wp2_with fail
    refine hfo.mono ?_
    rintro e w1 ⟨rfl, hw⟩
    subst hw
    clear hfo
    go_wp2_with fail
    go_ret
    rw [HR.out]
    exact ⟨rfl, rfl⟩
  · have HR : Keep (chkS X k q = ((Wi.chk p.x.s.wh p.x.s.wb q : Nat) : Int)) := ⟨by unfold chkS; rw [hf]; rfl⟩
    have hok := hr.ok p.x (by rw [hY]; simp)
    have hm : p.x.s ∈ X.S := (fds_num hf).1
    have hwh : p.x.s.wh < 18446744073709551616 := by
      have := ok.s p.x.s hm
      omega
    have c9 : W.cell? ⟨p.sb, 9, none⟩ = some (pt p.wb) := (hS.boxGet k0m).cellv 9 _ rfl
    obtain ⟨a, c, _, hrw⟩ := rw_of hS k1m k2m (by have := hok.len; omega) hok.lt
    have hck := Wi.rcheck_c hrw hok.inv hwh q hq
    clear hf h hr hn ok hS hok hm hwh hrw hY
    go_enter Tryz.func30, Tryz.ntmps30
    go_wp2_with fail
    refine hfo.mono ?_
    rintro e w1 ⟨rfl, hw⟩
    subst hw
    clear hfo
    go_wp2_with fail
    refine hck.mono ?_
    rintro e w2 ⟨rfl, hw⟩
    subst hw
    clear hck
    go_wp2_with fail
    go_ret
    rw [HR.out]
    exact ⟨rfl, rfl⟩
set_option maxRecDepth 100000 in
set_option maxHeartbeats 8000000 in
theorem rtok_c (w0 W : World) (l : List As) (kb : Nat) (X : Lb) (Y : Rl) (k : Nat) (h : Sep w0 W (rlobA kb Y :: l)) (hr : Rel X Y) (hn : Y.S.length ≤ 1000000) (ok : LbOk X) :
    Calls Tryz.prog 32 #[pt kb, uv k] W fun e W' => e = .returned (.bool (tokS X k)) ∧ W.grownBy W' none := by
  obtain ⟨F, hfo, hc⟩ := rl_find k h hr hn
  rcases hc with ⟨rfl, hf⟩ | ⟨p, A, C, hole, rfl, hf, hY, _, _, hS, _⟩
  · have HR : Keep (tokS X k = false) := ⟨by unfold tokS; rw [hf]; rfl⟩
    clear hf h hr hn ok
    go_enter Tryz.func32, Tryz.ntmps32
    go_wp2_with fail
    refine hfo.mono ?_
    rintro e w1 ⟨rfl, hw⟩
    subst hw
    clear hfo
    go_wp2_with fail
    go_ret
    rw [HR.out]
    exact ⟨rfl, World.grownBy.refl _ _⟩
  · have HR : Keep (tokS X k = decide (0 < p.x.s.y / 16)) := ⟨by unfold tokS; rw [hf]; rfl⟩
    have hy : 0 ≤ p.x.s.y ∧ p.x.s.y ≤ 16000 := by
      have := ok.s p.x.s (fds_num hf).1
      have := ok.r.2.2.2
      omega
    have c10 : W.cell? ⟨p.sb, 10, none⟩ = some (iv X.r) := (hS.boxGet k0m).cellv 10 _ rfl
    have c11 : W.cell? ⟨p.sb, 11, none⟩ = some (iv (16 * X.u)) := (hS.boxGet k0m).cellv 11 _ rfl
    have c12 : W.cell? ⟨p.sb, 12, none⟩ = some (iv p.x.s.y) := (hS.boxGet k0m).cellv 12 _ rfl
    have hL := Bu.rleft_c X.r (16 * X.u) p.x.s.y W hy.1 hy.2
    obtain ⟨yy, hyy⟩ : ∃ yy, p.x.s.y / 16 = yy := ⟨_, rfl⟩
    rw [hyy] at hL HR
    clear hf h hr hn ok hS hY hy hyy
    go_enter Tryz.func32, Tryz.ntmps32
    go_wp2_with fail
    refine hfo.mono ?_
    rintro e w1 ⟨rfl, hw⟩
    subst hw
    clear hfo
    go_wp2_with fail
    refine hL.mono ?_
    rintro e w2 ⟨rfl, g2⟩
    clear hL
    go_wp2_with fail
    go_ret
    rw [HR.out]
    exact ⟨rfl, g2⟩
theorem mk_set {Y : Rl} {A C : List Rs} {x x' : Rs} (e : Y.S = A ++ x :: C) (h : x'.L = x.L) : ∀ m, (∀ z ∈ Y.S, z.L.length ≤ m) → ∀ z ∈ A ++ x' :: C, z.L.length ≤ m := by
  intro m hm z hz
  rcases List.mem_append.1 hz with q | q
  · exact hm z (by rw [e]; exact List.mem_append_left _ q)
  · rcases List.mem_cons.1 q with rfl | q
    · rw [h]; exact hm x (by rw [e]; simp)
    · exact hm z (by rw [e]; exact List.mem_append_right _ (List.mem_cons_of_mem _ q))
set_option maxRecDepth 100000 in
set_option maxHeartbeats 8000000 in
theorem rsent_c (w0 W : World) (l : List As) (kb : Nat) (X : Lb) (Y : Rl) (k : Nat) (h : Sep w0 W (rlobA kb Y :: l)) (hr : Rel X Y) (hn : Y.S.length ≤ 1000000) :
    Calls Tryz.prog 39 #[pt kb, uv k] W fun e W' => e = .returned (sntS X k) ∧ ∃ Y', Sep w0 W' (rlobA kb Y' :: l) ∧ Rel (sntX X k) Y' ∧ Y'.S.length = Y.S.length ∧ ∀ m, (∀ x ∈ Y.S, x.L.length ≤ m) → ∀ x ∈ Y'.S, x.L.length ≤ m := by
  obtain ⟨F, hfo, hc⟩ := rl_find k h hr hn
  rcases hc with ⟨rfl, hf⟩ | ⟨p, A, C, hole, rfl, hf, hY, hnum, hg, hS, hB⟩
  · have HR : Keep (sntS X k = .tuple #[uv 0, iv 122] ∧ sntX X k = X) := ⟨by unfold sntS sntX; rw [hf]; exact ⟨rfl, rfl⟩⟩
    have HF : Keep (∃ Y', Sep w0 W (rlobA kb Y' :: l) ∧ Rel X Y' ∧ Y'.S.length = Y.S.length ∧ ∀ m, (∀ x ∈ Y.S, x.L.length ≤ m) → ∀ x ∈ Y'.S, x.L.length ≤ m) := ⟨Y, h, hr, rfl, fun m hm => hm⟩
    clear hf h hr hn
    go_enter Tryz.func39, Tryz.ntmps39
    go_wp2_with fail
    refine hfo.mono ?_
    rintro e w1 ⟨rfl, hw⟩
    subst hw
    clear hfo
    go_wp2_with fail
    go_ret2
    rw [HR.out.1, HR.out.2]
    exact ⟨rfl, HF.out⟩
  · have HR : Keep (sntS X k = .tuple #[uv (snt p.x.s).sent, iv 0] ∧ sntX X k = upd X k (snt p.x.s)) := ⟨by unfold sntS sntX; rw [hf]; exact ⟨rfl, rfl⟩⟩
    have c6 : W.cell? ⟨p.sb, 6, none⟩ = some (uv p.x.s.sent) := (hS.boxGet k0m).cellv 6 _ rfl
    have f6 : W.frozen? ⟨p.sb, 6, none⟩ = false := (hS.boxGet k0m).frozen 6
    have S2 := hS.boxPut 6 (uv (snt p.x.s).sent)
    obtain ⟨W2, hW2⟩ : ∃ W2, W.setCell ⟨p.sb, 6, none⟩ (uv (snt p.x.s).sent) = W2 := ⟨_, rfl⟩
    rw [hW2] at S2
    have d6 : W2.cell? ⟨p.sb, 6, none⟩ = some (uv (snt p.x.s).sent) := (S2.boxGet k0m).cellv 6 _ rfl
    have HF : Keep (∃ Y', Sep w0 W2 (rlobA kb Y' :: l) ∧ Rel (upd X k (snt p.x.s)) Y' ∧ Y'.S.length = Y.S.length ∧ ∀ m, (∀ x ∈ Y.S, x.L.length ≤ m) → ∀ x ∈ Y'.S, x.L.length ≤ m) := ⟨_, hB W2 { p.x with s := snt p.x.s } p.sv S2, hr.upd hY hnum hg (x' := { p.x with s := snt p.x.s }) hnum hg ⟨(hr.ok p.x (by rw [hY]; simp)).inv, (hr.ok p.x (by rw [hY]; simp)).len, (hr.ok p.x (by rw [hY]; simp)).lt⟩, by rw [hY]; simp, mk_set hY rfl⟩
    have hw64 : IntKind.u64.wrap ((p.x.s.sent : Int) + 1) = ((snt p.x.s).sent : Int) := by
      show _ = (((p.x.s.sent + 1) % 18446744073709551616 : Nat) : Int)
      simp [IntKind.wrap, IntKind.bits, IntKind.signed]
    generalize (snt p.x.s).sent = sn at HR S2 hW2 d6 hw64
    clear hf h hr hn hS hB hY S2
    go_enter Tryz.func39, Tryz.ntmps39
    go_wp2_with fail
    refine hfo.mono ?_
    rintro e w1 ⟨rfl, hw⟩
    subst hw
    clear hfo
    go_wp2_with fail
    go_ret2
    rw [HR.out.1, HR.out.2]
    exact ⟨rfl, HF.out⟩
end Go.Proofs.YtplcicbpkbamnabGreatDoor.Lo

/- LobbyPlays: the reference's Find, Leave, Next -/
namespace Go.Proofs.YtplcicbpkbamnabGreatDoor.Lo
open Go Go.RowKit Go.Maps

set_option maxRecDepth 100000 in
theorem b49 : Tryz.prog.built 49 [] = some z7.toArray := by kernel_rfl
set_option maxRecDepth 100000 in
theorem b49e (f : Nat × Operand → Nat × Value) : Tryz.prog.built 49 ((#[] : Array (Nat × Operand)).map f).toList = some z7.toArray := by
  rw [show ((#[] : Array (Nat × Operand)).map f).toList = [] by simp]; exact b49
set_option maxRecDepth 100000 in
theorem rs_lv {r u : Int} {wb : Nat} {x : Rs} {W : World} {b : Nat} {t : TypeId} (h : Has W b (rsv r u wb x) t) : W.rangeAt b 0 (lvc x.s) := h.rangeMid 0 [] (lvc x.s) _ rfl rfl
set_option maxRecDepth 100000 in
set_option maxHeartbeats 8000000 in
theorem rfnd_c (w0 W : World) (l : List As) (kb : Nat) (X : Lb) (Y : Rl) (k : Nat) (fr : ByteArray) (h : Sep w0 W (rlobA kb Y :: l)) (hr : Rel X Y) (hn : Y.S.length ≤ 1000000) :
    Calls Tryz.prog 41 #[pt kb, uv k, .string fr] W fun e W' => e = .returned (.tuple #[.agg (fndS X k fr).1.toArray, iv (fndS X k fr).2]) ∧ Sep w0 W' (rlobA kb Y :: l) := by
  obtain ⟨du, hdu, hdr⟩ := under42
  have S0 := h.newBox z7.toArray 49
  obtain ⟨W1, hW1⟩ : ∃ W1, W.alloc (.cells z7.toArray 49) = W1 := ⟨_, rfl⟩
  obtain ⟨rb, hrb⟩ : ∃ rb, W.heap.size = rb := ⟨_, rfl⟩
  rw [hW1, hrb] at S0
  change Sep w0 W1 (boxA rb z7 49 :: rlobA kb Y :: l) at S0
  have HS0 := Keep.mk S0
  have HRB := Keep.mk (S0.boxGet k0m)
  have HZ1 := Keep.mk z7_one
  obtain ⟨F, hfo, hc⟩ := rl_find k S0.swap hr hn
  have HBT := Keep.mk b49e
  rcases hc with ⟨rfl, hf⟩ | ⟨p, A, C, hole, rfl, hf, hY, hnum, hg, hS, hB⟩
  · have HR : Keep (fndS X k fr = (z7, 122)) := ⟨by unfold fndS; rw [hf]⟩
    unfold z7 at hW1
    clear h hf S0 hr hn
    go_enter Tryz.func41, Tryz.ntmps41
    go_wp2_with fail
    refine hfo.mono ?_
    rintro e w1 ⟨rfl, hw⟩
    subst hw
    clear hfo hW1
    go_wp2_with (first
      | (show wpList _ _ _ ({ dst := _, op := Op.build 49 _, type := _, pos := _, after := _, guard := _ } :: _) _ _
         refine build_p (by rfl) 49 _ rfl _ (HBT.out _) ?_)
      | (show wpList _ _ _ ({ dst := _, op := Op.store 49 _ _, type := _, pos := _, after := _, guard := _ } :: _) _ _
         refine store_box _ rb z7 z7 49 rfl rfl rfl rfl HRB.out rfl (by exact info42) HZ1.out ?_))
    intro w7 hS7 g7
    have HS7 := Keep.mk (hS7 _ _ HS0.out)
    clear hS7 g7 HRB HS0
    go_wp2_with fail
    refine Bu.ret_ct rfl rfl (HS7.out.boxGet k0m) hdu hdr (by exact info42) rfl ?_
    rw [HR.out]
    exact ⟨rfl, HS7.out.tail⟩
  · have d3 : W1.cell? ⟨p.sb, 3, none⟩ = some (.string p.x.s.fr) := (hS.boxGet k0m).cellv 3 _ rfl
    by_cases hfr : p.x.s.fr = fr
    · have HR : Keep (fndS X k fr = (lvc p.x.s, 0)) := ⟨by unfold fndS; rw [hf]; simp [hfr]⟩
      have HL1 := Keep.mk (lvc_one p.x.s)
      have HL7 : Keep ((lvc p.x.s).length = 7) := ⟨rfl⟩
      have RNG := Keep.mk (rs_lv (hS.boxGet k0m))
      rw [hfr] at d3
      unfold z7 at hW1
      obtain ⟨lv, hlv⟩ : ∃ lv, lvc p.x.s = lv := ⟨_, rfl⟩
      rw [hlv] at HR HL1 HL7 RNG
      clear h hf S0 hS hB hn hr hfr hlv hY
      go_enter Tryz.func41, Tryz.ntmps41
      go_wp2_with fail
      refine hfo.mono ?_
      rintro e w1 ⟨rfl, hw⟩
      subst hw
      clear hfo hW1
      go_wp2_with (first
        | (show wpList _ _ _ ({ dst := _, op := Op.load 49 _, type := _, pos := _, after := _, guard := _ } :: _) _ _
           refine wpList_load_mid rfl 49 _ rfl _ _ rfl _ _ RNG.out hdu hdr (by rw [HL7.out]; exact info42) ?_)
        | (show wpList _ _ _ ({ dst := _, op := Op.store 49 _ _, type := _, pos := _, after := _, guard := _ } :: _) _ _
           refine store_box _ rb z7 lv 49 rfl rfl rfl rfl HRB.out (by rw [HL7.out]; rfl) (by rw [HL7.out]; exact info42) HL1.out ?_))
      intro w7 hS7 g7
      have HS7 := Keep.mk (hS7 _ _ HS0.out)
      clear hS7 g7 HRB HS0
      go_wp2_with fail
      refine Bu.ret_ct rfl rfl (HS7.out.boxGet k0m) hdu hdr (by rw [HL7.out]; exact info42) rfl ?_
      rw [HR.out]
      exact ⟨rfl, HS7.out.tail⟩
    · have HR : Keep (fndS X k fr = (z7, 123)) := ⟨by unfold fndS; rw [hf]; simp [hfr]⟩
      have hnq := str_nq hfr
      unfold z7 at hW1
      clear h hf S0 hS hB hn hr hfr hY
      go_enter Tryz.func41, Tryz.ntmps41
      go_wp2_with fail
      refine hfo.mono ?_
      rintro e w1 ⟨rfl, hw⟩
      subst hw
      clear hfo hW1
      go_wp2_with (first
        | (show wpList _ _ _ ({ dst := _, op := Op.build 49 _, type := _, pos := _, after := _, guard := _ } :: _) _ _
           refine build_p (by rfl) 49 _ rfl _ (HBT.out _) ?_)
        | (show wpList _ _ _ ({ dst := _, op := Op.store 49 _ _, type := _, pos := _, after := _, guard := _ } :: _) _ _
           refine store_box _ rb z7 z7 49 rfl rfl rfl rfl HRB.out rfl (by exact info42) HZ1.out ?_))
      intro w7 hS7 g7
      have HS7 := Keep.mk (hS7 _ _ HS0.out)
      clear hS7 g7 HRB HS0
      go_wp2_with fail
      refine Bu.ret_ct rfl rfl (HS7.out.boxGet k0m) hdu hdr (by exact info42) rfl ?_
      rw [HR.out]
      exact ⟨rfl, HS7.out.tail⟩
set_option maxRecDepth 100000 in
set_option maxHeartbeats 8000000 in
theorem rlev_c (w0 W : World) (l : List As) (kb : Nat) (X : Lb) (Y : Rl) (k : Nat) (h : Sep w0 W (rlobA kb Y :: l)) (hr : Rel X Y) (hn : Y.S.length ≤ 1000000) :
    Calls Tryz.prog 34 #[pt kb, uv k] W fun e W' => e = .returned (.tuple #[.agg (levS X k).1.toArray, iv (levS X k).2]) ∧ ∃ Y', Sep w0 W' (rlobA kb Y' :: l) ∧ Rel (levX X k) Y' ∧ Y'.S.length = Y.S.length ∧ ∀ m, (∀ x ∈ Y.S, x.L.length ≤ m) → ∀ x ∈ Y'.S, x.L.length ≤ m := by
  obtain ⟨du, hdu, hdr⟩ := under42
  have S0 := h.newBox z7.toArray 49
  obtain ⟨W1, hW1⟩ : ∃ W1, W.alloc (.cells z7.toArray 49) = W1 := ⟨_, rfl⟩
  obtain ⟨rb, hrb⟩ : ∃ rb, W.heap.size = rb := ⟨_, rfl⟩
  rw [hW1, hrb] at S0
  change Sep w0 W1 (boxA rb z7 49 :: rlobA kb Y :: l) at S0
  have HZ1 := Keep.mk z7_one
  obtain ⟨F, hfo, hc⟩ := rl_find k S0.swap hr hn
  have HBT := Keep.mk b49e
  rcases hc with ⟨rfl, hf⟩ | ⟨p, A, C, hole, rfl, hf, hY, hnum, hg, hS, hB⟩
  · have HR : Keep (levS X k = (z7, 122) ∧ levX X k = X) := ⟨by unfold levS levX; rw [hf]; exact ⟨rfl, rfl⟩⟩
    have HS0 := Keep.mk S0
    have HRB := Keep.mk (S0.boxGet k0m)
    have HRL := Keep.mk hr
    unfold z7 at hW1
    clear h hf S0 hr hn
    go_enter Tryz.func34, Tryz.ntmps34
    go_wp2_with fail
    refine hfo.mono ?_
    rintro e w1 ⟨rfl, hw⟩
    subst hw
    clear hfo hW1
    go_wp2_with (first
      | (show wpList _ _ _ ({ dst := _, op := Op.build 49 _, type := _, pos := _, after := _, guard := _ } :: _) _ _
         refine build_p (by rfl) 49 _ rfl _ (HBT.out _) ?_)
      | (show wpList _ _ _ ({ dst := _, op := Op.store 49 _ _, type := _, pos := _, after := _, guard := _ } :: _) _ _
         refine store_box _ rb z7 z7 49 rfl rfl rfl rfl HRB.out rfl (by exact info42) HZ1.out ?_))
    intro w7 hS7 g7
    have HS7 := Keep.mk (hS7 _ _ HS0.out)
    clear hS7 g7 HRB HS0
    go_wp2_with fail
    refine Bu.ret_ct rfl rfl (HS7.out.boxGet k0m) hdu hdr (by exact info42) rfl ?_
    rw [HR.out.1, HR.out.2]
    exact ⟨rfl, Y, HS7.out.tail, HRL.out, rfl, fun m hm => hm⟩
  · have HR : Keep (levS X k = (lvc p.x.s, 0) ∧ levX X k = del X k) := ⟨by unfold levS levX; rw [hf]; exact ⟨rfl, rfl⟩⟩
    have d13 : W1.cell? ⟨p.sb, 13, none⟩ = some (.bool p.x.g) := (hS.boxGet k0m).cellv 13 _ rfl
    have f13 : W1.frozen? ⟨p.sb, 13, none⟩ = false := (hS.boxGet k0m).frozen 13
    have S2 := hS.boxPut 13 (.bool true)
    obtain ⟨W2, hW2⟩ : ∃ W2, W1.setCell ⟨p.sb, 13, none⟩ (.bool true) = W2 := ⟨_, rfl⟩
    rw [hW2] at S2
    have S2' : Sep w0 W2 (boxA p.sb (rsv X.r X.u p.wb { p.x with g := true }) 94 :: boxA p.wb [p.sv, uv p.x.s.wh] 135 :: rowV 38 1 p.sv p.x.L.length (p.x.L.map uv) :: hole) := S2
    have S3 := (hB W2 { p.x with g := true } p.sv S2').swap
    have HS3 := Keep.mk S3
    have HRB := Keep.mk (S3.boxGet k0m)
    have HRL : Keep (Rel (del X k) { Y with S := A ++ { p.x with g := true } :: C } ∧ (A ++ { p.x with g := true } :: C).length = Y.S.length ∧ ∀ m, (∀ x ∈ Y.S, x.L.length ≤ m) → ∀ x ∈ A ++ { p.x with g := true } :: C, x.L.length ≤ m) := ⟨hr.del hY hnum hg (x' := { p.x with g := true }) hnum rfl ⟨(hr.ok p.x (by rw [hY]; simp)).inv, (hr.ok p.x (by rw [hY]; simp)).len, (hr.ok p.x (by rw [hY]; simp)).lt⟩, by rw [hY]; simp, mk_set hY rfl⟩
    have HL1 := Keep.mk (lvc_one p.x.s)
    have HL7 : Keep ((lvc p.x.s).length = 7) := ⟨rfl⟩
    have RNG := Keep.mk (rs_lv (S2'.boxGet k0m))
    unfold z7 at hW1
    obtain ⟨lv, hlv⟩ : ∃ lv, lvc p.x.s = lv := ⟨_, rfl⟩
    have RNG2 : Keep (W2.rangeAt p.sb 0 lv) := ⟨by rw [← hlv]; exact RNG.out⟩
    rw [hlv] at HR HL1 HL7
    clear h hf S0 hS hB hn hr hlv S2 S2' S3 RNG
    go_enter Tryz.func34, Tryz.ntmps34
    go_wp2_with fail
    refine hfo.mono ?_
    rintro e w1 ⟨rfl, hw⟩
    subst hw
    clear hfo hW1
    go_wp2_with (first
      | (show wpList _ _ _ ({ dst := _, op := Op.load 49 _, type := _, pos := _, after := _, guard := _ } :: _) _ _
         refine wpList_load_mid rfl 49 _ rfl _ _ rfl _ _ RNG2.out hdu hdr (by rw [HL7.out]; exact info42) ?_)
      | (show wpList _ _ _ ({ dst := _, op := Op.store 49 _ _, type := _, pos := _, after := _, guard := _ } :: _) _ _
         refine store_box _ rb z7 lv 49 rfl rfl rfl rfl HRB.out (by rw [HL7.out]; rfl) (by rw [HL7.out]; exact info42) HL1.out ?_))
    intro w7 hS7 g7
    have HS7 := Keep.mk (hS7 _ _ HS3.out)
    clear hS7 g7 HRB HS3
    go_wp2_with fail
    refine Bu.ret_ct rfl rfl (HS7.out.boxGet k0m) hdu hdr (by rw [HL7.out]; exact info42) rfl ?_
    rw [HR.out.1, HR.out.2]
    exact ⟨rfl, _, HS7.out.tail, HRL.out.1, HRL.out.2⟩
set_option maxRecDepth 100000 in
set_option maxHeartbeats 4000000 in
theorem rnext_c (w0 W : World) (l : List As) (kb : Nat) (X : Lb) (Y : Rl) (h : Sep w0 W (rlobA kb Y :: l)) (hr : Rel X Y) (hn : Y.S.length ≤ 1000000) :
    Calls Tryz.prog 12 #[pt kb] W fun e W' => e = .returned (uv X.next) ∧ W' = W := by
  obtain ⟨q, h⟩ := h.opn
  have hR := rd_of h
  obtain ⟨n, hnn⟩ : ∃ n, Y.S.length = n := ⟨_, rfl⟩
  obtain ⟨a, cap, hs⟩ := hR.sl
  have c13 := hR.c13
  rw [hs, hnn] at c13
  have HX : Keep (X.next = n + 1) := ⟨by rw [hr.next, hnn]⟩
  rw [hnn] at hn
  have hw1 : IntKind.u64.wrap (n : Int) = (n : Int) := Wi.wu _ (by omega) (by omega)
  have hw2 : IntKind.u64.wrap ((n : Int) + 1) = ((n + 1 : Nat) : Int) := by rw [Wi.wu _ (by omega) (by omega)]; omega
  clear h hR hs hr hnn
  go_enter Tryz.func12, Tryz.ntmps12
  go_wp2_with fail
  go_ret
  rw [HX.out]
  exact ⟨by simp, rfl⟩
end Go.Proofs.YtplcicbpkbamnabGreatDoor.Lo

