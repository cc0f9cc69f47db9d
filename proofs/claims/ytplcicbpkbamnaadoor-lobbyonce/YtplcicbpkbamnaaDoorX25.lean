import Derived.Test.YtplcicbpkbamnaaDoorX13
import Derived.Test.YtplcicbpkbamnaaDoorX23
/- a map of numbers to true, of the call's own -/
namespace Go.Proofs.YtplcicbpkbamnaaDoor.Lo
open Go Go.RowKit Go.Maps

/-- how a bool reads -/
def be : Value → Option (DataW Unit × List MemPlace)
  | .bool x => some (.lit (.bool x), [])
  | _ => none
theorem be_inv {v : Value} {x : Bool} {ps : List MemPlace} (h : be v = some (.lit (.bool x), ps)) : v = .bool x := by
  unfold be at h
  split at h
  · simp at h
    rw [h.1]
  · cases h
/-- the numbers of M are there -/
structure BmIs (w : World) (mb : Nat) (M : List Nat) : Prop where
  o : ∃ D : DataW Unit, w.ownsMap Tryd.prog 40 be mb M.length D ∧ Maps.IsMap D ∧ ∀ k : Nat, D.atKey (.int .u64 ((k : Nat) : Int)) (.lit (.bool false)) = .lit (.bool (decide (k ∈ M)))
theorem zero4 (w : World) : (zeroValue 4).run Tryd.prog w = .ok (.bool false) w := by
  simp [zeroValue]; rfl
theorem under54 : Tryd.prog.underlying 54 = some (.map 40 4) := by kernel_rfl
theorem BmIs.look {w : World} {mb : Nat} {M : List Nat} (h : BmIs w mb M) (k : Nat) (hk : k < 18446744073709551616) :
    (Instr.lookup 54 (.map (some mb)) (uv k) false).run Tryd.prog w = .ok (.bool (decide (k ∈ M))) w := by
  obtain ⟨D, o, _, h3⟩ := h.o
  obtain ⟨v, ps, r1, r2⟩ := o.lookup law40 under54 (zero4 w) (zd := .lit (.bool false)) (zp := []) rfl (key40 k hk)
  rw [h3] at r2
  rw [r1, be_inv r2]
theorem BmIs.new (w : World) : BmIs (w.alloc (.map #[] 0)) w.heap.size [] := by
  refine ⟨_, World.ownsMap_made w _ _ _, Maps.isMap_empty, fun k => ?_⟩
  rw [Maps.atKey_of_not_has rfl]; simp
theorem BmIs.put {w : World} {mb : Nat} {M : List Nat} (h : BmIs w mb M) (k : Nat) (hk : k < 18446744073709551616) (hl : M.length ≤ 4096) :
    ∃ w', (Instr.mapUpdate 54 (.map (some mb)) (uv k) (.bool true)).run Tryd.prog w = .ok () w' ∧ BmIs w' mb (k :: M) ∧ w.grownBy w' (some mb) := by
  obtain ⟨D, o, t, h3⟩ := h.o
  obtain ⟨w', r1, r2, r3⟩ := o.store law40 under54 (by unfold maxLen; omega) (key40 k hk) (val := .bool true) (d := .lit (.bool true)) (ps := []) rfl
  refine ⟨w', r1, ⟨_, r2, t.put _ _, fun k' => ?_⟩, r3.grown⟩
  by_cases e : k' = k
  · subst e
    rw [Maps.atKey_put_same (k := .int .u64 ((k' : Nat) : Int)) t trivial]; simp
  · rw [Maps.atKey_put_other (key_ne e), h3]; simp [e]
theorem BmIs.fr {S : Nat → Prop} {w w' : World} {mb : Nat} {M : List Nat} (h : BmIs w mb M) (f : Fr S w w') (hs : ¬ S mb) : BmIs w' mb M := by
  obtain ⟨D, o, h1⟩ := h.o
  have := o.lt
  obtain ⟨es, clock, q1, q2, q3, rfl⟩ := o
  exact ⟨_, ⟨es, clock, by rw [f.block mb this hs]; exact q1, q2, q3, rfl⟩, h1⟩
theorem BmIs.lt {w : World} {mb : Nat} {M : List Nat} (h : BmIs w mb M) : mb < w.heap.size := by
  obtain ⟨D, o, h1⟩ := h.o
  exact o.lt
/-- the map, as a thing that lies apart -/
def bmA (mb : Nat) (M : List Nat) : As :=
  ⟨fun W F => BmIs W mb M ∧ F = fun i => i = mb, fun S W W' F h f hs => ⟨h.1.fr f (hs mb (by rw [h.2])), h.2⟩, fun W F h i hi => by rw [h.2] at hi; have hi : i = mb := hi; rw [hi]; exact h.1.lt⟩
theorem Sep.bmGet {w0 W : World} {l : List As} {mb : Nat} {M : List Nat} (h : Sep w0 W l) (hm : bmA mb M ∈ l) : BmIs W mb M := by
  obtain ⟨F, q, _⟩ := h.get hm
  exact q
theorem Sep.bmPut {w0 W : World} {l : List As} {mb : Nat} {M : List Nat} (h : Sep w0 W (bmA mb M :: l)) (k : Nat) (hk : k < 18446744073709551616) (hl : M.length ≤ 4096) :
    ∃ W', (Instr.mapUpdate 54 (.map (some mb)) (uv k) (.bool true)).run Tryd.prog W = .ok () W' ∧ Sep w0 W' (bmA mb (k :: M) :: l) := by
  obtain ⟨F, ⟨h1, rfl⟩, _, hu⟩ := h.use
  obtain ⟨W', r1, r2, r3⟩ := h1.put k hk hl
  exact ⟨W', r1, hu W' [_] (Fr.ofSome r3 rfl) (Loc.one (a := bmA _ _) _ ⟨r2, rfl⟩ (fun i hi => .inl hi))⟩
theorem Sep.bmNew {w0 W : World} {l : List As} (h : Sep w0 W l) : Sep w0 (W.alloc (.map #[] 0)) (bmA W.heap.size [] :: l) :=
  h.new (World.grownBy_alloc _ _ _) (Loc.one (a := bmA _ _) _ ⟨BmIs.new W, rfl⟩ (fun i hi => .inr (by rw [hi]; exact Nat.le_refl _)))
end Go.Proofs.YtplcicbpkbamnaaDoor.Lo

/- LobbyApart: two lobbies whose first session is the same -/
namespace Go.Proofs.YtplcicbpkbamnaaDoor.Lo
open Go Go.RowKit Go.Maps

theorem fds_upd_ne {X : Lb} {k j : Nat} {s' : Se} (hs : s'.num = k) (hj : j ≠ k) : fds (upd X k s') j = fds X j := by
  unfold fds upd
  show (X.S.map fun s => if s.num = k then s' else s).find? _ = _
  generalize X.S = S
  induction S with
  | nil => rfl
  | cons s S ih =>
    rw [List.map_cons, List.find?_cons, List.find?_cons, ih]
    by_cases e : s.num = k
    · have e1 : decide (s'.num = j) = false := decide_eq_false (by omega)
      have e2 : decide (s.num = j) = false := decide_eq_false (by omega)
      rw [if_pos e, e1, e2]
    · rw [if_neg e]
theorem fds_upd_eq {X : Lb} {k : Nat} {s' : Se} (hs : s'.num = k) : fds (upd X k s') k = (fds X k).map fun _ => s' := by
  unfold fds upd
  show (X.S.map fun s => if s.num = k then s' else s).find? _ = _
  generalize X.S = S
  induction S with
  | nil => rfl
  | cons s S ih =>
    rw [List.map_cons, List.find?_cons, List.find?_cons, ih]
    by_cases e : s.num = k
    · have e1 : decide (s'.num = k) = true := decide_eq_true hs
      have e2 : decide (s.num = k) = true := decide_eq_true e
      rw [if_pos e, e1, e2]; rfl
    · have e2 : decide (s.num = k) = false := decide_eq_false e
      rw [if_neg e, e2]
theorem fds_del_ne {X : Lb} {k j : Nat} (hj : j ≠ k) : fds (del X k) j = fds X j := by
  unfold fds del
  show (X.S.filter fun s => decide (s.num ≠ k)).find? _ = _
  generalize X.S = S
  induction S with
  | nil => rfl
  | cons s S ih =>
    by_cases e : s.num = k
    · have e1 : decide (s.num ≠ k) = false := decide_eq_false (by omega)
      have e2 : decide (s.num = j) = false := decide_eq_false (by omega)
      rw [List.filter_cons, e1, List.find?_cons, e2]
      exact ih
    · have e1 : decide (s.num ≠ k) = true := decide_eq_true e
      rw [List.filter_cons, e1, if_pos rfl, List.find?_cons, List.find?_cons, ih]
theorem fds_ref {X : Lb} {k : Nat} : fds (refX X) k = (fds X k).map (tickE X) := by
  unfold fds refX
  show (X.S.map (tickE X)).find? _ = _
  generalize X.S = S
  induction S with
  | nil => rfl
  | cons s S ih =>
    rw [List.map_cons, List.find?_cons, List.find?_cons, ih]
    have e : (tickE X s).num = s.num := rfl
    rw [e]
    cases decide (s.num = k) <;> rfl
theorem accE_num (s : Se) (q : Nat) (c : Bool) (t : Nat) : (accE s q c t).num = s.num := by unfold accE; split <;> rfl
theorem fds_acp {X : Lb} {k q t : Nat} {c : Bool} : fds (acpX X k q c t) k = (fds X k).map fun s => accE s q c t := by
  unfold acpX
  cases h : fds X k with
  | none => exact h
  | some s =>
    show fds (upd X k _) k = _
    rw [fds_upd_eq (by rw [accE_num]; exact (fds_num h).2), h]; rfl
theorem fds_snt {X : Lb} {k : Nat} : fds (sntX X k) k = (fds X k).map snt := by
  unfold sntX
  cases h : fds X k with
  | none => exact h
  | some s =>
    show fds (upd X k _) k = _
    rw [fds_upd_eq (show (snt s).num = k from (fds_num h).2), h]; rfl
theorem fds_acp_ne {X : Lb} {k j q t : Nat} {c : Bool} (hj : j ≠ k) : fds (acpX X k q c t) j = fds X j := by
  unfold acpX
  cases h : fds X k with
  | none => rfl
  | some s => exact fds_upd_ne (by rw [accE_num]; exact (fds_num h).2) hj
theorem fds_snt_ne {X : Lb} {k j : Nat} (hj : j ≠ k) : fds (sntX X k) j = fds X j := by
  unfold sntX
  cases h : fds X k with
  | none => rfl
  | some s => exact fds_upd_ne (show (snt s).num = k from (fds_num h).2) hj
theorem fds_lev_ne {X : Lb} {k j : Nat} (hj : j ≠ k) : fds (levX X k) j = fds X j := by
  unfold levX
  cases h : fds X k with
  | none => rfl
  | some s => exact fds_del_ne hj
theorem act_keeps {X : Lb} {o : Opr} (h1 : o.kd ≠ 1) : (actX X o).next = X.next ∧ (actX X o).r = X.r ∧ (actX X o).u = X.u := by
  unfold actX
  rw [if_neg h1]
  split
  · unfold acpX; cases fds X o.ses <;> exact ⟨rfl, rfl, rfl⟩
  · split
    · unfold levX; cases fds X o.ses <;> exact ⟨rfl, rfl, rfl⟩
    · split
      · exact ⟨rfl, rfl, rfl⟩
      · split
        · exact ⟨rfl, rfl, rfl⟩
        · split
          · unfold sntX; cases fds X o.ses <;> exact ⟨rfl, rfl, rfl⟩
          · exact ⟨rfl, rfl, rfl⟩
theorem act_one {A B : Lb} {o : Opr} (h : fds A 1 = fds B 1) (hr : A.r = B.r) (hu : A.u = B.u) (h1 : o.kd ≠ 1) (h6 : o.kd ≠ 6) (hs : o.ses = 1) : fds (actX A o) 1 = fds (actX B o) 1 := by
  unfold actX
  rw [if_neg h1, if_neg h1, hs]
  split
  · rw [fds_acp, fds_acp, h]
  · split
    · rw [fds_lev, fds_lev]
    · split
      · have e : tickE A = tickE B := by funext s; unfold tickE; rw [hr, hu]
        rw [fds_ref, fds_ref, h, e]
      · split
        · rw [fds_snt, fds_snt, h]
        · exact h
theorem act_two {A : Lb} {o : Opr} (h1 : o.kd ≠ 1) (h6 : o.kd ≠ 6) (h7 : o.kd ≠ 7) (hs : o.ses = 2) : fds (actX A o) 1 = fds A 1 := by
  unfold actX
  rw [if_neg h1, hs]
  split
  · exact fds_acp_ne (by decide)
  · split
    · exact fds_lev_ne (by decide)
    · split
      · exact fds_snt_ne (by decide)
      · rfl
/-- two lobbies whose first session is the same -/
structure Tw (A B : Lb) : Prop where
  f : fds A 1 = fds B 1
  r : A.r = B.r
  u : A.u = B.u
  na : A.next = 3
  nb : B.next = 3
  oa : LbOk A
  ob : LbOk B
  ua : Up A
  ub : Up B
theorem Tw.refill {A B : Lb} (h : Tw A B) : Tw (refX A) (refX B) := by
  have e : tickE A = tickE B := by funext s; unfold tickE; rw [h.r, h.u]
  exact ⟨by rw [fds_ref, fds_ref, h.f, e], h.r, h.u, h.na, h.nb, h.oa.refill, h.ob.refill, h.ua.refill, h.ub.refill⟩
theorem Tw.one {A B : Lb} (h : Tw A B) {o : Opr} (ho : OpOk o) (h1 : o.kd ≠ 1) (h6 : o.kd ≠ 6) (hs : o.ses = 1) : Tw (actX A o) (actX B o) :=
  ⟨act_one h.f h.r h.u h1 h6 hs, by rw [(act_keeps h1).2.1, (act_keeps h1).2.1, h.r], by rw [(act_keeps h1).2.2, (act_keeps h1).2.2, h.u], by rw [(act_keeps h1).1, h.na], by rw [(act_keeps h1).1, h.nb], h.oa.act ho (by rw [h.na]; decide), h.ob.act ho (by rw [h.nb]; decide), h.ua.act h.oa, h.ub.act h.ob⟩
theorem Tw.two {A B : Lb} (h : Tw A B) {o : Opr} (ho : OpOk o) (h1 : o.kd ≠ 1) (h6 : o.kd ≠ 6) (h7 : o.kd ≠ 7) (hs : o.ses = 2) : Tw (actX A o) B :=
  ⟨by rw [act_two h1 h6 h7 hs]; exact h.f, by rw [(act_keeps h1).2.1]; exact h.r, by rw [(act_keeps h1).2.2]; exact h.u, by rw [(act_keeps h1).1]; exact h.na, h.nb, h.oa.act ho (by rw [h.na]; decide), h.ob, h.ua.act h.oa, h.ub⟩
theorem Tw.ask {A B : Lb} (h : Tw A B) (fr : ByteArray) (q : Nat) : fndS A 1 fr = fndS B 1 fr ∧ chkS A 1 q = chkS B 1 q ∧ tokS A 1 = tokS B 1 ∧ sntS A 1 = sntS B 1 := by
  unfold fndS chkS tokS sntS
  rw [h.f]
  exact ⟨rfl, rfl, rfl, rfl⟩
/-- ann, then bob -/
theorem ann_bob {c : Cf} {X : Lb} (h : newL c pP = some X) (h2 : 2 ≤ c.ses) (fr1 fr2 n s : ByteArray) (hf1 : fr1.size ≤ 281474976710656) (hf2 : fr2.size ≤ 281474976710656) : LbOk X ∧ X.next = 1 ∧ LbOk (joiX X fr1 n s sann 9) ∧ (joiX X fr1 n s sann 9).next = 2 ∧ Tw (joiX (joiX X fr1 n s sann 9) fr2 n s sbob 9) (joiX (joiX X fr1 n s sann 9) fr2 n s sbob 9) := by
  obtain ⟨ok, up, hS, hn⟩ := new_ok h
  have hA := new_A h
  have hm : 2 ≤ X.most := by
    unfold newL at h
    split at h
    · obtain ⟨A, _, rfl⟩ := Option.map_eq_some_iff.1 h
      show 2 ≤ c.ses.toNat
      omega
    · cases h
  have q1 := joi_yes (X := X) (nm := sann) (a := 0) (by rw [hA]; exact a_f1.2.1) (by unfold plyS; rw [hS]; rfl) (by rw [hS]; exact Nat.lt_of_lt_of_le (by decide) hm) fr1 n s 9
  have e1 : joiX X fr1 n s sann 9 = { X with next := X.next + 1, S := X.S ++ [joiE X fr1 n s sann 9 0] } := by unfold joiX; rw [q1.2]
  have ok1 : LbOk (joiX X fr1 n s sann 9) := ok.join (by rw [hn]; decide) (by decide) (by decide) hf1 (fun a z => fdI_lt z)
  have up1 : Up (joiX X fr1 n s sann 9) := up.join ok ..
  have n1 : (joiX X fr1 n s sann 9).next = 2 := by rw [e1]; show X.next + 1 = 2; omega
  have A1 : (joiX X fr1 n s sann 9).A = aA := by rw [e1]; exact hA
  have S1 : (joiX X fr1 n s sann 9).S = [joiE X fr1 n s sann 9 0] := by rw [e1]; show X.S ++ _ = _; rw [hS]; rfl
  have m1 : (joiX X fr1 n s sann 9).most = X.most := by rw [e1]
  refine ⟨ok, hn, ok1, n1, ?_⟩
  generalize joiX X fr1 n s sann 9 = Y at ok1 up1 n1 A1 S1 m1 ⊢
  have q2 := joi_yes (X := Y) (nm := sbob) (a := 1) (by rw [A1]; exact a_f1.2.2.1) (by unfold plyS; rw [S1]; rfl) (by rw [S1, m1]; exact Nat.lt_of_lt_of_le (by show 1 < 2; decide) hm) fr2 n s 9
  have e2 : joiX Y fr2 n s sbob 9 = { Y with next := Y.next + 1, S := Y.S ++ [joiE Y fr2 n s sbob 9 1] } := by unfold joiX; rw [q2.2]
  have ok2 : LbOk (joiX Y fr2 n s sbob 9) := ok1.join (by rw [n1]; decide) (by decide) (by decide) hf2 (fun a z => fdI_lt z)
  have n2 : (joiX Y fr2 n s sbob 9).next = 3 := by rw [e2]; show Y.next + 1 = 3; omega
  exact ⟨rfl, rfl, rfl, n2, n2, ok2, ok2, up1.join ok1 .., up1.join ok1 ..⟩
end Go.Proofs.YtplcicbpkbamnaaDoor.Lo

/- LobbyOnce: what stays so of its session -/
namespace Go.Proofs.YtplcicbpkbamnaaDoor.Lo
open Go Go.RowKit Go.Maps

/-- where LobbyOnce stands: its session, the numbers that were taken, refills and commands -/
structure On (r u : Int) (X : Lb) (s : Se) (M : List Nat) (R C : Nat) : Prop where
  xr : X.r = r
  xu : X.u = u
  f : fds X 2 = some s
  fr : s.fr = sx
  inv : Wi.Inv s.wh s.wb M
  hi : s.high = s.wh
  b : 16 * (C : Int) + s.y ≤ 16 * u + r * (R : Int)
  ok : LbOk X
theorem On.y0 {r u : Int} {X : Lb} {s : Se} {M : List Nat} {R C : Nat} (h : On r u X s M R C) : 0 ≤ s.y := by
  have := h.ok.s s (fds_num h.f).1
  omega
/-- no more commands than the bucket lets -/
theorem On.few {r u : Int} {X : Lb} {s : Se} {M : List Nat} {R C : Nat} (h : On r u X s M R C) : (C : Int) ≤ u + r * (R : Int) / 16 := by
  have h0 := h.y0
  have hb := h.b
  generalize r * (R : Int) = z at hb ⊢
  omega
theorem On.refill {r u : Int} {X : Lb} {s : Se} {M : List Nat} {R C : Nat} (h : On r u X s M R C) : On r u (refX X) (tickE X s) M (R + 1) C := by
  refine ⟨h.xr, h.xu, by rw [fds_ref, h.f]; rfl, h.fr, h.inv, h.hi, ?_, h.ok.refill⟩
  show 16 * (C : Int) + Bu.tk X.r X.u s.y 1 ≤ 16 * u + r * ((R + 1 : Nat) : Int)
  rw [h.xr, h.xu]
  have hb := h.b
  have e : r * ((R + 1 : Nat) : Int) = r * (R : Int) + r := by
    rw [Int.natCast_succ, Int.mul_add, Int.mul_one]
  rw [e]
  generalize r * (R : Int) = z at hb ⊢
  have t : Bu.tk r u s.y 1 ≤ s.y + r := by
    unfold Bu.tk
    rw [show min (1 : Int) 16000 = 1 from rfl, Int.mul_one]
    omega
  omega
/-- one that is refused -/
theorem On.no {r u : Int} {X : Lb} {s : Se} {M : List Nat} {R C : Nat} (h : On r u X s M R C) {q t : Nat} {c : Bool} (hq : q < 18446744073709551616) (ht : t < 18446744073709551616) (hn : accC s q c ≠ 0) : On r u (acpX X 2 q c t) s M R C ∧ acpS X 2 q c = accC s q c := by
  have e : accE s q c t = s := by unfold accE; rw [if_neg hn]
  have hu : (acpX X 2 q c t).u = X.u ∧ (acpX X 2 q c t).r = X.r := by unfold acpX; rw [h.f]; exact ⟨rfl, rfl⟩
  exact ⟨⟨hu.2.trans h.xr, hu.1.trans h.xu, by rw [fds_acp, h.f]; show some (accE s q c t) = _; rw [e], h.fr, h.inv, h.hi, h.b, h.ok.acp hq ht⟩, by unfold acpS; rw [h.f]; rfl⟩
/-- one that is taken -/
theorem On.yes {r u : Int} {X : Lb} {s : Se} {M : List Nat} {R C : Nat} (h : On r u X s M R C) {q t : Nat} {c : Bool} (hq : q < 18446744073709551616) (ht : t < 18446744073709551616) (hn : accC s q c = 0) : On r u (acpX X 2 q c t) (acc s q c t) (q :: M) R (C + if c then 1 else 0) ∧ acpS X 2 q c = 0 ∧ q ∉ M ∧ 0 < q ∧ (acc s q c t).high = max s.high q := by
  have e : accE s q c t = acc s q c t := by unfold accE; rw [if_pos hn]
  have hc : Wi.chk s.wh s.wb q = 0 := by
    unfold accC at hn
    split at hn
    · omega
    · rename_i z; omega
  have hz := (h.inv.chk_zero q).1 hc
  have hu : (acpX X 2 q c t).u = X.u ∧ (acpX X 2 q c t).r = X.r := by unfold acpX; rw [h.f]; exact ⟨rfl, rfl⟩
  refine ⟨⟨hu.2.trans h.xr, hu.1.trans h.xu, by rw [fds_acp, h.f]; show some (accE s q c t) = _; rw [e], h.fr, h.inv.yes hc, rfl, ?_, h.ok.acp hq ht⟩, by unfold acpS; rw [h.f]; exact hn, hz.2, by omega, ?_⟩
  · have hb := h.b
    cases c with
    | false => simpa [acc] using hb
    | true =>
      show 16 * ((C + 1 : Nat) : Int) + (s.y - 16) ≤ _
      omega
  · show Wi.mkH s.wh s.wb q = _
    unfold Wi.mkH
    rw [if_pos hc, h.hi]
theorem On.tok {r u : Int} {X : Lb} {s : Se} {M : List Nat} {R C : Nat} (h : On r u X s M R C) : tokS X 2 = decide (16 ≤ s.y) := by
  unfold tokS; rw [h.f]
  show decide (0 < s.y / 16) = _
  rw [decide_eq_decide]; omega
theorem On.chk {r u : Int} {X : Lb} {s : Se} {M : List Nat} {R C : Nat} (h : On r u X s M R C) (q : Nat) : chkS X 2 q = (Wi.chk s.wh s.wb q : Nat) := by
  unfold chkS; rw [h.f]; rfl
theorem On.fnd {r u : Int} {X : Lb} {s : Se} {M : List Nat} {R C : Nat} (h : On r u X s M R C) : fndS X 2 sx = (lvc s, 0) := by
  unfold fndS; rw [h.f]
  show (if s.fr = sx then _ else _) = _
  rw [if_pos h.fr]
/-- cy comes and goes, ann comes -/
theorem once_start {c : Cf} {X : Lb} (h : newL c pP = some X) : LbOk X ∧ X.next = 1 ∧ (∃ X1, joiX X sx sn ss scy 0 = X1 ∧ LbOk X1 ∧ ∃ X2, levX X1 1 = X2 ∧ LbOk X2 ∧ X2.next = 2 ∧ ∃ e X3, joiC X2 sann = 0 ∧ joiS X2 sx sn ss sann 0 = some e ∧ e.num = 2 ∧ joiX X2 sx sn ss sann 0 = X3 ∧ On c.rate c.burst X3 e [] 0 0) ∧ Bu.okay c.rate c.burst := by
  obtain ⟨ok, up, hS, hn⟩ := new_ok h
  have hA := new_A h
  have hru : X.r = c.rate ∧ X.u = c.burst := by
    unfold newL at h
    split at h
    · obtain ⟨A, _, rfl⟩ := Option.map_eq_some_iff.1 h
      exact ⟨rfl, rfl⟩
    · cases h
  have hb : Bu.okay c.rate c.burst := by have := ok.r; rw [hru.1, hru.2] at this; exact this
  have q1 := joi_yes (X := X) (nm := scy) (a := 2) (by rw [hA]; exact a_f1.2.2.2) (by unfold plyS; rw [hS]; rfl) (by rw [hS]; exact ok.m1) sx sn ss 0
  have e1 : joiX X sx sn ss scy 0 = { X with next := X.next + 1, S := X.S ++ [joiE X sx sn ss scy 0 2] } := by unfold joiX; rw [q1.2]
  have ok1 : LbOk (joiX X sx sn ss scy 0) := ok.join (by rw [hn]; decide) (by decide) (by decide) (by decide) (fun a z => fdI_lt z)
  refine ⟨ok, hn, ⟨_, rfl, ok1, _, rfl, ok1.leave, ?_⟩, hb⟩
  have e2 : levX (joiX X sx sn ss scy 0) 1 = { X with next := 2, S := [] } := by
    rw [e1]
    unfold levX fds del
    show (Option.map _ ((X.S ++ [joiE X sx sn ss scy 0 2]).find? _)).getD _ = _
    rw [hS, List.nil_append, List.find?_cons]
    have : decide ((joiE X sx sn ss scy 0 2).num = 1) = true := decide_eq_true hn
    rw [this]
    show ({ X with next := X.next + 1, S := ([] ++ [joiE X sx sn ss scy 0 2]).filter fun s => decide (s.num ≠ 1) } : Lb) = _
    rw [List.nil_append, List.filter_cons, hn]
    have : decide ((joiE X sx sn ss scy 0 2).num ≠ 1) = false := decide_eq_false (fun z => z hn)
    rw [this]
    rfl
  have ok2 := ok1.leave (k := 1)
  rw [e2] at ok2 ⊢
  generalize hY : ({ X with next := 2, S := [] } : Lb) = Y at ok2 ⊢
  have hYA : Y.A = aA := by rw [← hY]; exact hA
  have hYS : Y.S = [] := by rw [← hY]
  have hYn : Y.next = 2 := by rw [← hY]
  have hYr : Y.r = c.rate ∧ Y.u = c.burst := by rw [← hY]; exact hru
  have q2 := joi_yes (X := Y) (nm := sann) (a := 0) (by rw [hYA]; exact a_f1.2.1) (by unfold plyS; rw [hYS]; rfl) (by rw [hYS]; exact ok2.m1) sx sn ss 0
  have e3 : joiX Y sx sn ss sann 0 = { Y with next := Y.next + 1, S := Y.S ++ [joiE Y sx sn ss sann 0 0] } := by unfold joiX; rw [q2.2]
  have ok3 : LbOk (joiX Y sx sn ss sann 0) := ok2.join (by rw [hYn]; decide) (by decide) (by decide) (by decide) (fun a z => fdI_lt z)
  refine ⟨hYn, _, _, q2.1, q2.2, hYn, rfl, ⟨by rw [e3]; exact hYr.1, by rw [e3]; exact hYr.2, ?_, rfl, Wi.Inv.zero, rfl, ?_, ok3⟩⟩
  · rw [e3]
    unfold fds
    show (Y.S ++ [joiE Y sx sn ss sann 0 0]).find? _ = _
    rw [hYS, List.nil_append, List.find?_cons]
    have : decide ((joiE Y sx sn ss sann 0 0).num = 2) = true := decide_eq_true hYn
    rw [this]
  · show 16 * ((0 : Nat) : Int) + 16 * Y.u ≤ 16 * c.burst + c.rate * ((0 : Nat) : Int)
    rw [hYr.2]
    simp
theorem acc_cases (s : Se) (q : Nat) (c : Bool) : (Wi.chk s.wh s.wb q ≠ 0 → accC s q c = (Wi.chk s.wh s.wb q : Nat) ∧ accC s q c ≠ 0) ∧ (Wi.chk s.wh s.wb q = 0 → c = true → ¬ 16 ≤ s.y → accC s q c = 80) ∧ (Wi.chk s.wh s.wb q = 0 → (c = true → 16 ≤ s.y) → accC s q c = 0) := by
  unfold accC
  refine ⟨fun h => ?_, fun h hc hy => ?_, fun h hc => ?_⟩
  · rw [if_pos h]; exact ⟨rfl, by omega⟩
  · rw [if_neg (by omega), if_pos ⟨hc, by omega⟩]
  · rw [if_neg (by omega), if_neg (fun z => by have := hc z.1; omega)]
/-- the last test of a round -/
theorem On.fin {r u : Int} {X : Lb} {s : Se} {M : List Nat} {R C : Nat} (h : On r u X s M R C) (hb : Bu.okay r u) (hR : R ≤ 300) : ∃ z q t : Int, IntKind.i64.wrap (r * (R : Int)) = z ∧ 0 ≤ z ∧ z ≤ 300000 ∧ Int.tdiv z 16 = q ∧ z / 16 = q ∧ 0 ≤ q ∧ q ≤ 300000 ∧ IntKind.i64.wrap (u + q) = t ∧ 0 ≤ t ∧ t ≤ 400000 ∧ (C : Int) ≤ t := by
  obtain ⟨h1, h2, h3, h4⟩ := hb
  have hz0 : 0 ≤ r * (R : Int) := Int.mul_nonneg h1 (by omega)
  have hz1 : r * (R : Int) ≤ 1000 * 300 := Int.mul_le_mul h2 (by omega) (by omega) (by omega)
  have hf := h.few
  have e1 : Int.tdiv (r * (R : Int)) 16 = r * (R : Int) / 16 := Int.tdiv_eq_ediv_of_nonneg hz0
  generalize r * (R : Int) = z at hz0 hz1 hf e1 ⊢
  refine ⟨z, z / 16, u + z / 16, wi _ (by omega) (by omega), hz0, by omega, e1, rfl, by omega, by omega, wi _ (by omega) (by omega), by omega, by omega, hf⟩
end Go.Proofs.YtplcicbpkbamnaaDoor.Lo

/- the same few facts as LZ2 has, for the texts that do not reach it -/
namespace Go.Proofs.YtplcicbpkbamnaaDoor.Lo
open Go Go.RowKit Go.Maps

theorem opv_one1 (o : Opr) : ∀ v ∈ opv o, v.oneCell' = true := by
  intro v hv
  simp only [opv, List.mem_cons, List.not_mem_nil, or_false] at hv
  rcases hv with rfl | rfl | rfl | rfl | rfl | rfl | rfl | rfl | rfl | rfl <;> rfl
theorem lv_cells {W : World} {b : Nat} {s : Se} (h : Has W b (lvc s) 42) : W.cell? ⟨b, 0, none⟩ = some (uv s.num) ∧ W.cell? ⟨b, 1, none⟩ = some (iv (s.pl : Nat)) ∧ W.cell? ⟨b, 2, none⟩ = some (.string s.nm) ∧ W.cell? ⟨b, 3, none⟩ = some (.string s.fr) ∧ W.cell? ⟨b, 4, none⟩ = some (uv s.heard) ∧ W.cell? ⟨b, 5, none⟩ = some (uv s.high) ∧ W.cell? ⟨b, 6, none⟩ = some (uv s.sent) :=
  ⟨h.cellv 0 _ rfl, h.cellv 1 _ rfl, h.cellv 2 _ rfl, h.cellv 3 _ rfl, h.cellv 4 _ rfl, h.cellv 5 _ rfl, h.cellv 6 _ rfl⟩
theorem eq_same (s : Se) (w : World) : (Op.equalIn 10000 42 (.agg #[uv s.num, iv (s.pl : Nat), .string s.nm, .string s.fr, uv s.heard, uv s.high, uv s.sent]) (.agg #[uv s.num, iv (s.pl : Nat), .string s.nm, .string s.fr, uv s.heard, uv s.high, uv s.sent])).run Tryd.prog w = .ok true w :=
  (eq_lv s s w).trans (by rw [sme_refl])
end Go.Proofs.YtplcicbpkbamnaaDoor.Lo

