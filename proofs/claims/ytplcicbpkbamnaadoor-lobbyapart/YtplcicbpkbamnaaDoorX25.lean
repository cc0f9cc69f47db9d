import Derived.Test.YtplcicbpkbamnaaDoorX23
/- LobbyApart: two lobbies whose first session is the same -/
namespace Go.Proofs.YtplcicbpkbamnaaDoor.Lo
open Go Go.RowKit Go.Maps

theorem fds_upd_ne {X : Lb} {k j : Nat} {s' : Se} (hs : s'.num = k) (hj : j ≠ k) : fds (upd X k s') j = fds X j := by
  unfold fds upd
  show (X.S.map fun s => if s.num = k then s' else s).find? _ = _
  generalize X.S = S
  induction S with
  | nil => rfl
  | cons s S ih =>
    rw [List.map_cons, List.find?_cons, List.find?_cons, ih]
    by_cases e : s.num = k
    · have e1 : decide (s'.num = j) = false := decide_eq_false (by omega)
      have e2 : decide (s.num = j) = false := decide_eq_false (by omega)
      rw [if_pos e, e1, e2]
    · rw [if_neg e]
theorem fds_upd_eq {X : Lb} {k : Nat} {s' : Se} (hs : s'.num = k) : fds (upd X k s') k = (fds X k).map fun _ => s' := by
  unfold fds upd
  show (X.S.map fun s => if s.num = k then s' else s).find? _ = _
  generalize X.S = S
  induction S with
  | nil => rfl
  | cons s S ih =>
    rw [List.map_cons, List.find?_cons, List.find?_cons, ih]
    by_cases e : s.num = k
    · have e1 : decide (s'.num = k) = true := decide_eq_true hs
      have e2 : decide (s.num = k) = true := decide_eq_true e
      rw [if_pos e, e1, e2]; rfl
    · have e2 : decide (s.num = k) = false := decide_eq_false e
      rw [if_neg e, e2]
theorem fds_del_ne {X : Lb} {k j : Nat} (hj : j ≠ k) : fds (del X k) j = fds X j := by
  unfold fds del
  show (X.S.filter fun s => decide (s.num ≠ k)).find? _ = _
  generalize X.S = S
  induction S with
  | nil => rfl
  | cons s S ih =>
    by_cases e : s.num = k
    · have e1 : decide (s.num ≠ k) = false := decide_eq_false (by omega)
      have e2 : decide (s.num = j) = false := decide_eq_false (by omega)
      rw [List.filter_cons, e1, List.find?_cons, e2]
      exact ih
    · have e1 : decide (s.num ≠ k) = true := decide_eq_true e
      rw [List.filter_cons, e1, if_pos rfl, List.find?_cons, List.find?_cons, ih]
theorem fds_ref {X : Lb} {k : Nat} : fds (refX X) k = (fds X k).map (tickE X) := by
  unfold fds refX
  show (X.S.map (tickE X)).find? _ = _
  generalize X.S = S
  induction S with
  | nil => rfl
  | cons s S ih =>
    rw [List.map_cons, List.find?_cons, List.find?_cons, ih]
    have e : (tickE X s).num = s.num := rfl
    rw [e]
    cases decide (s.num = k) <;> rfl
theorem accE_num (s : Se) (q : Nat) (c : Bool) (t : Nat) : (accE s q c t).num = s.num := by unfold accE; split <;> rfl
theorem fds_acp {X : Lb} {k q t : Nat} {c : Bool} : fds (acpX X k q c t) k = (fds X k).map fun s => accE s q c t := by
  unfold acpX
  cases h : fds X k with
  | none => exact h
  | some s =>
    show fds (upd X k _) k = _
    rw [fds_upd_eq (by rw [accE_num]; exact (fds_num h).2), h]; rfl
theorem fds_snt {X : Lb} {k : Nat} : fds (sntX X k) k = (fds X k).map snt := by
  unfold sntX
  cases h : fds X k with
  | none => exact h
  | some s =>
    show fds (upd X k _) k = _
    rw [fds_upd_eq (show (snt s).num = k from (fds_num h).2), h]; rfl
theorem fds_acp_ne {X : Lb} {k j q t : Nat} {c : Bool} (hj : j ≠ k) : fds (acpX X k q c t) j = fds X j := by
  unfold acpX
  cases h : fds X k with
  | none => rfl
  | some s => exact fds_upd_ne (by rw [accE_num]; exact (fds_num h).2) hj
theorem fds_snt_ne {X : Lb} {k j : Nat} (hj : j ≠ k) : fds (sntX X k) j = fds X j := by
  unfold sntX
  cases h : fds X k with
  | none => rfl
  | some s => exact fds_upd_ne (show (snt s).num = k from (fds_num h).2) hj
theorem fds_lev_ne {X : Lb} {k j : Nat} (hj : j ≠ k) : fds (levX X k) j = fds X j := by
  unfold levX
  cases h : fds X k with
  | none => rfl
  | some s => exact fds_del_ne hj
theorem act_keeps {X : Lb} {o : Opr} (h1 : o.kd ≠ 1) : (actX X o).next = X.next ∧ (actX X o).r = X.r ∧ (actX X o).u = X.u := by
  unfold actX
  rw [if_neg h1]
  split
  · unfold acpX; cases fds X o.ses <;> exact ⟨rfl, rfl, rfl⟩
  · split
    · unfold levX; cases fds X o.ses <;> exact ⟨rfl, rfl, rfl⟩
    · split
      · exact ⟨rfl, rfl, rfl⟩
      · split
        · exact ⟨rfl, rfl, rfl⟩
        · split
          · unfold sntX; cases fds X o.ses <;> exact ⟨rfl, rfl, rfl⟩
          · exact ⟨rfl, rfl, rfl⟩
theorem act_one {A B : Lb} {o : Opr} (h : fds A 1 = fds B 1) (hr : A.r = B.r) (hu : A.u = B.u) (h1 : o.kd ≠ 1) (h6 : o.kd ≠ 6) (hs : o.ses = 1) : fds (actX A o) 1 = fds (actX B o) 1 := by
  unfold actX
  rw [if_neg h1, if_neg h1, hs]
  split
  · rw [fds_acp, fds_acp, h]
  · split
    · rw [fds_lev, fds_lev]
    · split
      · have e : tickE A = tickE B := by funext s; unfold tickE; rw [hr, hu]
        rw [fds_ref, fds_ref, h, e]
      · split
        · rw [fds_snt, fds_snt, h]
        · exact h
theorem act_two {A : Lb} {o : Opr} (h1 : o.kd ≠ 1) (h6 : o.kd ≠ 6) (h7 : o.kd ≠ 7) (hs : o.ses = 2) : fds (actX A o) 1 = fds A 1 := by
  unfold actX
  rw [if_neg h1, hs]
  split
  · exact fds_acp_ne (by decide)
  · split
    · exact fds_lev_ne (by decide)
    · split
      · exact fds_snt_ne (by decide)
      · rfl
/-- two lobbies whose first session is the same -/
structure Tw (A B : Lb) : Prop where
  f : fds A 1 = fds B 1
  r : A.r = B.r
  u : A.u = B.u
  na : A.next = 3
  nb : B.next = 3
  oa : LbOk A
  ob : LbOk B
  ua : Up A
  ub : Up B
theorem Tw.refill {A B : Lb} (h : Tw A B) : Tw (refX A) (refX B) := by
  have e : tickE A = tickE B := by funext s; unfold tickE; rw [h.r, h.u]
  exact ⟨by rw [fds_ref, fds_ref, h.f, e], h.r, h.u, h.na, h.nb, h.oa.refill, h.ob.refill, h.ua.refill, h.ub.refill⟩
theorem Tw.one {A B : Lb} (h : Tw A B) {o : Opr} (ho : OpOk o) (h1 : o.kd ≠ 1) (h6 : o.kd ≠ 6) (hs : o.ses = 1) : Tw (actX A o) (actX B o) :=
  ⟨act_one h.f h.r h.u h1 h6 hs, by rw [(act_keeps h1).2.1, (act_keeps h1).2.1, h.r], by rw [(act_keeps h1).2.2, (act_keeps h1).2.2, h.u], by rw [(act_keeps h1).1, h.na], by rw [(act_keeps h1).1, h.nb], h.oa.act ho (by rw [h.na]; decide), h.ob.act ho (by rw [h.nb]; decide), h.ua.act h.oa, h.ub.act h.ob⟩
theorem Tw.two {A B : Lb} (h : Tw A B) {o : Opr} (ho : OpOk o) (h1 : o.kd ≠ 1) (h6 : o.kd ≠ 6) (h7 : o.kd ≠ 7) (hs : o.ses = 2) : Tw (actX A o) B :=
  ⟨by rw [act_two h1 h6 h7 hs]; exact h.f, by rw [(act_keeps h1).2.1]; exact h.r, by rw [(act_keeps h1).2.2]; exact h.u, by rw [(act_keeps h1).1]; exact h.na, h.nb, h.oa.act ho (by rw [h.na]; decide), h.ob, h.ua.act h.oa, h.ub⟩
theorem Tw.ask {A B : Lb} (h : Tw A B) (fr : ByteArray) (q : Nat) : fndS A 1 fr = fndS B 1 fr ∧ chkS A 1 q = chkS B 1 q ∧ tokS A 1 = tokS B 1 ∧ sntS A 1 = sntS B 1 := by
  unfold fndS chkS tokS sntS
  rw [h.f]
  exact ⟨rfl, rfl, rfl, rfl⟩
/-- ann, then bob -/
theorem ann_bob {c : Cf} {X : Lb} (h : newL c pP = some X) (h2 : 2 ≤ c.ses) (fr1 fr2 n s : ByteArray) (hf1 : fr1.size ≤ 281474976710656) (hf2 : fr2.size ≤ 281474976710656) : LbOk X ∧ X.next = 1 ∧ LbOk (joiX X fr1 n s sann 9) ∧ (joiX X fr1 n s sann 9).next = 2 ∧ Tw (joiX (joiX X fr1 n s sann 9) fr2 n s sbob 9) (joiX (joiX X fr1 n s sann 9) fr2 n s sbob 9) := by
  obtain ⟨ok, up, hS, hn⟩ := new_ok h
  have hA := new_A h
  have hm : 2 ≤ X.most := by
    unfold newL at h
    split at h
    · obtain ⟨A, _, rfl⟩ := Option.map_eq_some_iff.1 h
      show 2 ≤ c.ses.toNat
      omega
    · cases h
  have q1 := joi_yes (X := X) (nm := sann) (a := 0) (by rw [hA]; exact a_f1.2.1) (by unfold plyS; rw [hS]; rfl) (by rw [hS]; exact Nat.lt_of_lt_of_le (by decide) hm) fr1 n s 9
  have e1 : joiX X fr1 n s sann 9 = { X with next := X.next + 1, S := X.S ++ [joiE X fr1 n s sann 9 0] } := by unfold joiX; rw [q1.2]
  have ok1 : LbOk (joiX X fr1 n s sann 9) := ok.join (by rw [hn]; decide) (by decide) (by decide) hf1 (fun a z => fdI_lt z)
  have up1 : Up (joiX X fr1 n s sann 9) := up.join ok ..
  have n1 : (joiX X fr1 n s sann 9).next = 2 := by rw [e1]; show X.next + 1 = 2; omega
  have A1 : (joiX X fr1 n s sann 9).A = aA := by rw [e1]; exact hA
  have S1 : (joiX X fr1 n s sann 9).S = [joiE X fr1 n s sann 9 0] := by rw [e1]; show X.S ++ _ = _; rw [hS]; rfl
  have m1 : (joiX X fr1 n s sann 9).most = X.most := by rw [e1]
  refine ⟨ok, hn, ok1, n1, ?_⟩
  generalize joiX X fr1 n s sann 9 = Y at ok1 up1 n1 A1 S1 m1 ⊢
  have q2 := joi_yes (X := Y) (nm := sbob) (a := 1) (by rw [A1]; exact a_f1.2.2.1) (by unfold plyS; rw [S1]; rfl) (by rw [S1, m1]; exact Nat.lt_of_lt_of_le (by show 1 < 2; decide) hm) fr2 n s 9
  have e2 : joiX Y fr2 n s sbob 9 = { Y with next := Y.next + 1, S := Y.S ++ [joiE Y fr2 n s sbob 9 1] } := by unfold joiX; rw [q2.2]
  have ok2 : LbOk (joiX Y fr2 n s sbob 9) := ok1.join (by rw [n1]; decide) (by decide) (by decide) hf2 (fun a z => fdI_lt z)
  have n2 : (joiX Y fr2 n s sbob 9).next = 3 := by rw [e2]; show Y.next + 1 = 3; omega
  exact ⟨rfl, rfl, rfl, n2, n2, ok2, ok2, up1.join ok1 .., up1.join ok1 ..⟩
end Go.Proofs.YtplcicbpkbamnaaDoor.Lo

