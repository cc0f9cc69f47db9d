import Derived.Test.YtplcicbpkbamnabGreatDoorX27
import Derived.RegionTactic
import Derived.Test.YtplcicbpkbamnabGreatDoorX30
/- LobbyBounds: lists of what lives, as they are read; free; same -/
namespace Go.Proofs.YtplcicbpkbamnabGreatDoor.Lo
open Go Go.RowKit Go.Maps

/-- a list of what lives, as it is read -/
structure Lvr (W : World) (v : Value) (S : List Se) : Prop where
  o : ∃ a cap, v = .slice a S.length cap ∧ (0 < S.length → ∃ g, a = some ⟨g, 0, none⟩ ∧ ∀ (j : Nat) (x : Se), S[j]? = some x → W.rangeAt g (j * 7) (lvc x))
set_option maxRecDepth 100000 in
theorem Lvr.kept {W W' : World} {v : Value} {S : List Se} (h : Lvr W v S) (g : W.grownBy W' none) : Lvr W' v S := by
  obtain ⟨a, cap, e, q⟩ := h.o
  refine ⟨⟨a, cap, e, fun hn => ?_⟩⟩
  obtain ⟨b, e1, q⟩ := q hn
  exact ⟨b, e1, fun j x hx i v hv => g.cell (q j x hx i v hv) (by simp)⟩
set_option maxRecDepth 100000 in
theorem any_succ {S : List Se} {i : Nat} {s : Se} (h : S[i]? = some s) (q : Se → Bool) : (S.take (i + 1)).any q = ((S.take i).any q || q s) := by
  rw [List.take_add_one, h, List.any_append]; simp
end Go.Proofs.YtplcicbpkbamnabGreatDoor.Lo

/- LobbyApart: two lobbies whose first session is the same -/
namespace Go.Proofs.YtplcicbpkbamnabGreatDoor.Lo
open Go Go.RowKit Go.Maps

set_option maxRecDepth 100000 in
theorem fds_upd_ne {X : Lb} {k j : Nat} {s' : Se} (hs : s'.num = k) (hj : j ≠ k) : fds (upd X k s') j = fds X j := by
  unfold fds upd
  show (X.S.map fun s => if s.num = k then s' else s).find? _ = _
  generalize X.S = S
  induction S with
  | nil => rfl
  | cons s S ih =>
    rw [List.map_cons, List.find?_cons, List.find?_cons, ih]
    by_cases e : s.num = k
    · have e1 : decide (s'.num = j) = false := decide_eq_false (by omega)
      have e2 : decide (s.num = j) = false := decide_eq_false (by omega)
      rw [if_pos e, e1, e2]
    · rw [if_neg e]
set_option maxRecDepth 100000 in
theorem fds_upd_eq {X : Lb} {k : Nat} {s' : Se} (hs : s'.num = k) : fds (upd X k s') k = (fds X k).map fun _ => s' := by
  unfold fds upd
  show (X.S.map fun s => if s.num = k then s' else s).find? _ = _
  generalize X.S = S
  induction S with
  | nil => rfl
  | cons s S ih =>
    rw [List.map_cons, List.find?_cons, List.find?_cons, ih]
    by_cases e : s.num = k
    · have e1 : decide (s'.num = k) = true := decide_eq_true hs
      have e2 : decide (s.num = k) = true := decide_eq_true e
      rw [if_pos e, e1, e2]; rfl
    · have e2 : decide (s.num = k) = false := decide_eq_false e
      rw [if_neg e, e2]
set_option maxRecDepth 100000 in
theorem fds_del_ne {X : Lb} {k j : Nat} (hj : j ≠ k) : fds (del X k) j = fds X j := by
  unfold fds del
  show (X.S.filter fun s => decide (s.num ≠ k)).find? _ = _
  generalize X.S = S
  induction S with
  | nil => rfl
  | cons s S ih =>
    by_cases e : s.num = k
    · have e1 : decide (s.num ≠ k) = false := decide_eq_false (by omega)
      have e2 : decide (s.num = j) = false := decide_eq_false (by omega)
      rw [List.filter_cons, e1, List.find?_cons, e2]
      exact ih
    · have e1 : decide (s.num ≠ k) = true := decide_eq_true e
      rw [List.filter_cons, e1, if_pos rfl, List.find?_cons, List.find?_cons, ih]
set_option maxRecDepth 100000 in
theorem fds_ref {X : Lb} {k : Nat} : fds (refX X) k = (fds X k).map (tickE X) := by
  unfold fds refX
  show (X.S.map (tickE X)).find? _ = _
  generalize X.S = S
  induction S with
  | nil => rfl
  | cons s S ih =>
    rw [List.map_cons, List.find?_cons, List.find?_cons, ih]
    have e : (tickE X s).num = s.num := rfl
    rw [e]
    cases decide (s.num = k) <;> rfl
set_option maxRecDepth 100000 in
theorem accE_num (s : Se) (q : Nat) (c : Bool) (t : Nat) : (accE s q c t).num = s.num := by unfold accE; split <;> rfl
set_option maxRecDepth 100000 in
theorem fds_acp {X : Lb} {k q t : Nat} {c : Bool} : fds (acpX X k q c t) k = (fds X k).map fun s => accE s q c t := by
  unfold acpX
  cases h : fds X k with
  | none => exact h
  | some s =>
    show fds (upd X k _) k = _
    rw [fds_upd_eq (by rw [accE_num]; exact (fds_num h).2), h]; rfl
set_option maxRecDepth 100000 in
theorem fds_snt {X : Lb} {k : Nat} : fds (sntX X k) k = (fds X k).map snt := by
  unfold sntX
  cases h : fds X k with
  | none => exact h
  | some s =>
    show fds (upd X k _) k = _
    rw [fds_upd_eq (show (snt s).num = k from (fds_num h).2), h]; rfl
set_option maxRecDepth 100000 in
theorem fds_acp_ne {X : Lb} {k j q t : Nat} {c : Bool} (hj : j ≠ k) : fds (acpX X k q c t) j = fds X j := by
  unfold acpX
  cases h : fds X k with
  | none => rfl
  | some s => exact fds_upd_ne (by rw [accE_num]; exact (fds_num h).2) hj
set_option maxRecDepth 100000 in
theorem fds_snt_ne {X : Lb} {k j : Nat} (hj : j ≠ k) : fds (sntX X k) j = fds X j := by
  unfold sntX
  cases h : fds X k with
  | none => rfl
  | some s => exact fds_upd_ne (show (snt s).num = k from (fds_num h).2) hj
set_option maxRecDepth 100000 in
theorem fds_lev_ne {X : Lb} {k j : Nat} (hj : j ≠ k) : fds (levX X k) j = fds X j := by
  unfold levX
  cases h : fds X k with
  | none => rfl
  | some s => exact fds_del_ne hj
set_option maxRecDepth 100000 in
theorem act_keeps {X : Lb} {o : Opr} (h1 : o.kd ≠ 1) : (actX X o).next = X.next ∧ (actX X o).r = X.r ∧ (actX X o).u = X.u := by
  unfold actX
  rw [if_neg h1]
  split
  · unfold acpX; cases fds X o.ses <;> exact ⟨rfl, rfl, rfl⟩
  · split
    · unfold levX; cases fds X o.ses <;> exact ⟨rfl, rfl, rfl⟩
    · split
      · exact ⟨rfl, rfl, rfl⟩
      · split
        · exact ⟨rfl, rfl, rfl⟩
        · split
          · unfold sntX; cases fds X o.ses <;> exact ⟨rfl, rfl, rfl⟩
          · exact ⟨rfl, rfl, rfl⟩
set_option maxRecDepth 100000 in
theorem act_one {A B : Lb} {o : Opr} (h : fds A 1 = fds B 1) (hr : A.r = B.r) (hu : A.u = B.u) (h1 : o.kd ≠ 1) (h6 : o.kd ≠ 6) (hs : o.ses = 1) : fds (actX A o) 1 = fds (actX B o) 1 := by
  unfold actX
  rw [if_neg h1, if_neg h1, hs]
  split
  · rw [fds_acp, fds_acp, h]
  · split
    · rw [fds_lev, fds_lev]
    · split
      · have e : tickE A = tickE B := by funext s; unfold tickE; rw [hr, hu]
        rw [fds_ref, fds_ref, h, e]
      · split
        · rw [fds_snt, fds_snt, h]
        · exact h
set_option maxRecDepth 100000 in
theorem act_two {A : Lb} {o : Opr} (h1 : o.kd ≠ 1) (h6 : o.kd ≠ 6) (h7 : o.kd ≠ 7) (hs : o.ses = 2) : fds (actX A o) 1 = fds A 1 := by
  unfold actX
  rw [if_neg h1, hs]
  split
  · exact fds_acp_ne (by decide)
  · split
    · exact fds_lev_ne (by decide)
    · split
      · exact fds_snt_ne (by decide)
      · rfl
/-- two lobbies whose first session is the same -/
structure Tw (A B : Lb) : Prop where
  f : fds A 1 = fds B 1
  r : A.r = B.r
  u : A.u = B.u
  na : A.next = 3
  nb : B.next = 3
  oa : LbOk A
  ob : LbOk B
  ua : Up A
  ub : Up B
set_option maxRecDepth 100000 in
theorem Tw.refill {A B : Lb} (h : Tw A B) : Tw (refX A) (refX B) := by
  have e : tickE A = tickE B := by funext s; unfold tickE; rw [h.r, h.u]
  exact ⟨by rw [fds_ref, fds_ref, h.f, e], h.r, h.u, h.na, h.nb, h.oa.refill, h.ob.refill, h.ua.refill, h.ub.refill⟩
set_option maxRecDepth 100000 in
theorem Tw.one {A B : Lb} (h : Tw A B) {o : Opr} (ho : OpOk o) (h1 : o.kd ≠ 1) (h6 : o.kd ≠ 6) (hs : o.ses = 1) : Tw (actX A o) (actX B o) :=
  ⟨act_one h.f h.r h.u h1 h6 hs, by rw [(act_keeps h1).2.1, (act_keeps h1).2.1, h.r], by rw [(act_keeps h1).2.2, (act_keeps h1).2.2, h.u], by rw [(act_keeps h1).1, h.na], by rw [(act_keeps h1).1, h.nb], h.oa.act ho (by rw [h.na]; decide), h.ob.act ho (by rw [h.nb]; decide), h.ua.act h.oa, h.ub.act h.ob⟩
set_option maxRecDepth 100000 in
theorem Tw.two {A B : Lb} (h : Tw A B) {o : Opr} (ho : OpOk o) (h1 : o.kd ≠ 1) (h6 : o.kd ≠ 6) (h7 : o.kd ≠ 7) (hs : o.ses = 2) : Tw (actX A o) B :=
  ⟨by rw [act_two h1 h6 h7 hs]; exact h.f, by rw [(act_keeps h1).2.1]; exact h.r, by rw [(act_keeps h1).2.2]; exact h.u, by rw [(act_keeps h1).1]; exact h.na, h.nb, h.oa.act ho (by rw [h.na]; decide), h.ob, h.ua.act h.oa, h.ub⟩
set_option maxRecDepth 100000 in
theorem Tw.ask {A B : Lb} (h : Tw A B) (fr : ByteArray) (q : Nat) : fndS A 1 fr = fndS B 1 fr ∧ chkS A 1 q = chkS B 1 q ∧ tokS A 1 = tokS B 1 ∧ sntS A 1 = sntS B 1 := by
  unfold fndS chkS tokS sntS
  rw [h.f]
  exact ⟨rfl, rfl, rfl, rfl⟩
/-- ann, then bob -/
theorem ann_bob {c : Cf} {X : Lb} (h : newL c pP = some X) (h2 : 2 ≤ c.ses) (fr1 fr2 n s : ByteArray) (hf1 : fr1.size ≤ 281474976710656) (hf2 : fr2.size ≤ 281474976710656) : LbOk X ∧ X.next = 1 ∧ LbOk (joiX X fr1 n s sann 9) ∧ (joiX X fr1 n s sann 9).next = 2 ∧ Tw (joiX (joiX X fr1 n s sann 9) fr2 n s sbob 9) (joiX (joiX X fr1 n s sann 9) fr2 n s sbob 9) := by
  obtain ⟨ok, up, hS, hn⟩ := new_ok h
  have hA := new_A h
  have hm : 2 ≤ X.most := by
    unfold newL at h
    split at h
    · obtain ⟨A, _, rfl⟩ := Option.map_eq_some_iff.1 h
      show 2 ≤ c.ses.toNat
      omega
    · cases h
  have q1 := joi_yes (X := X) (nm := sann) (a := 0) (by rw [hA]; exact a_f1.2.1) (by unfold plyS; rw [hS]; rfl) (by rw [hS]; exact Nat.lt_of_lt_of_le (by decide) hm) fr1 n s 9
  have e1 : joiX X fr1 n s sann 9 = { X with next := X.next + 1, S := X.S ++ [joiE X fr1 n s sann 9 0] } := by unfold joiX; rw [q1.2]
  have ok1 : LbOk (joiX X fr1 n s sann 9) := ok.join (by rw [hn]; decide) (by decide) (by decide) hf1 (fun a z => fdI_lt z)
  have up1 : Up (joiX X fr1 n s sann 9) := up.join ok ..
  have n1 : (joiX X fr1 n s sann 9).next = 2 := by rw [e1]; show X.next + 1 = 2; omega
  have A1 : (joiX X fr1 n s sann 9).A = aA := by rw [e1]; exact hA
  have S1 : (joiX X fr1 n s sann 9).S = [joiE X fr1 n s sann 9 0] := by rw [e1]; show X.S ++ _ = _; rw [hS]; rfl
  have m1 : (joiX X fr1 n s sann 9).most = X.most := by rw [e1]
  refine ⟨ok, hn, ok1, n1, ?_⟩
  generalize joiX X fr1 n s sann 9 = Y at ok1 up1 n1 A1 S1 m1 ⊢
  have q2 := joi_yes (X := Y) (nm := sbob) (a := 1) (by rw [A1]; exact a_f1.2.2.1) (by unfold plyS; rw [S1]; rfl) (by rw [S1, m1]; exact Nat.lt_of_lt_of_le (by show 1 < 2; decide) hm) fr2 n s 9
  have e2 : joiX Y fr2 n s sbob 9 = { Y with next := Y.next + 1, S := Y.S ++ [joiE Y fr2 n s sbob 9 1] } := by unfold joiX; rw [q2.2]
  have ok2 : LbOk (joiX Y fr2 n s sbob 9) := ok1.join (by rw [n1]; decide) (by decide) (by decide) hf2 (fun a z => fdI_lt z)
  have n2 : (joiX Y fr2 n s sbob 9).next = 3 := by rw [e2]; show Y.next + 1 = 3; omega
  exact ⟨rfl, rfl, rfl, n2, n2, ok2, ok2, up1.join ok1 .., up1.join ok1 ..⟩
end Go.Proofs.YtplcicbpkbamnabGreatDoor.Lo

/- the same few facts as LZ2 has, for the texts that do not reach it -/
namespace Go.Proofs.YtplcicbpkbamnabGreatDoor.Lo
open Go Go.RowKit Go.Maps

set_option maxRecDepth 100000 in
theorem opv_one1 (o : Opr) : ∀ v ∈ opv o, v.oneCell' = true := by
  intro v hv
  simp only [opv, List.mem_cons, List.not_mem_nil, or_false] at hv
  rcases hv with rfl | rfl | rfl | rfl | rfl | rfl | rfl | rfl | rfl | rfl <;> rfl
set_option maxRecDepth 100000 in
theorem lv_cells {W : World} {b : Nat} {s : Se} (h : Has W b (lvc s) 49) : W.cell? ⟨b, 0, none⟩ = some (uv s.num) ∧ W.cell? ⟨b, 1, none⟩ = some (iv (s.pl : Nat)) ∧ W.cell? ⟨b, 2, none⟩ = some (.string s.nm) ∧ W.cell? ⟨b, 3, none⟩ = some (.string s.fr) ∧ W.cell? ⟨b, 4, none⟩ = some (uv s.heard) ∧ W.cell? ⟨b, 5, none⟩ = some (uv s.high) ∧ W.cell? ⟨b, 6, none⟩ = some (uv s.sent) :=
  ⟨h.cellv 0 _ rfl, h.cellv 1 _ rfl, h.cellv 2 _ rfl, h.cellv 3 _ rfl, h.cellv 4 _ rfl, h.cellv 5 _ rfl, h.cellv 6 _ rfl⟩
set_option maxRecDepth 100000 in
theorem eq_same (s : Se) (w : World) : (Op.equalIn 10000 49 (.agg #[uv s.num, iv (s.pl : Nat), .string s.nm, .string s.fr, uv s.heard, uv s.high, uv s.sent]) (.agg #[uv s.num, iv (s.pl : Nat), .string s.nm, .string s.fr, uv s.heard, uv s.high, uv s.sent])).run Tryz.prog w = .ok true w :=
  (eq_lv s s w).trans (by rw [sme_refl])
end Go.Proofs.YtplcicbpkbamnabGreatDoor.Lo

/- LobbyBounds: same -/
namespace Go.Proofs.YtplcicbpkbamnabGreatDoor.Lo
open Go Go.RowKit Go.Maps

set_option maxRecDepth 100000 in
theorem Lvr.cells {W : World} {g n cap : Nat} {S : List Se} (h : Lvr W (.slice (some ⟨g, 0, none⟩) n cap) S) (hn : S.length = n) {i : Nat} {s : Se} (hs : S[i]? = some s) :
    W.cell? ⟨g, i * 7, none⟩ = some (uv s.num) ∧ W.cell? ⟨g, i * 7 + 1, none⟩ = some (iv (s.pl : Nat)) ∧ W.cell? ⟨g, i * 7 + 2, none⟩ = some (.string s.nm) ∧ W.cell? ⟨g, i * 7 + 3, none⟩ = some (.string s.fr) ∧ W.cell? ⟨g, i * 7 + 4, none⟩ = some (uv s.heard) ∧ W.cell? ⟨g, i * 7 + 5, none⟩ = some (uv s.high) ∧ W.cell? ⟨g, i * 7 + 6, none⟩ = some (uv s.sent) := by
  obtain ⟨a, c, e, q⟩ := h.o
  have hlt := (List.getElem?_eq_some_iff.1 hs).1
  obtain ⟨g', e1, q⟩ := q (by omega)
  injection e with e2 _ _
  rw [e1] at e2
  injection e2 with e2
  injection e2 with e2 _ _
  subst e2
  have r := q i s hs
  exact ⟨r 0 _ rfl, r 1 _ rfl, r 2 _ rfl, r 3 _ rfl, r 4 _ rfl, r 5 _ rfl, r 6 _ rfl⟩
set_option maxRecDepth 100000 in
set_option maxHeartbeats 8000000 in
theorem sam_c (w : World) (v1 v2 : Value) (S : List Se) (h1 : Lvr w v1 S) (h2 : Lvr w v2 S) (hn : S.length ≤ 64) :
    Calls Tryz.prog 8 #[v1, v2] w fun e w' => e = .returned (.bool true) ∧ w.grownBy w' none := by
  obtain ⟨n, hnS⟩ : ∃ n, S.length = n := ⟨_, rfl⟩
  obtain ⟨a1, cap1, hv1, hq1⟩ := h1.o
  obtain ⟨a2, cap2, hv2, hq2⟩ := h2.o
  rw [hnS] at hv1 hq1 hv2 hq2 hn
  subst hv1 hv2
  have HL := Keep.mk (And.intro h1 h2)
  have HQ := Keep.mk hnS
  have HA1 : Keep (0 < n → ∃ g, a1 = some ⟨g, 0, none⟩) := ⟨fun q => by obtain ⟨g, e, _⟩ := hq1 q; exact ⟨g, e⟩⟩
  have HA2 : Keep (0 < n → ∃ g, a2 = some ⟨g, 0, none⟩) := ⟨fun q => by obtain ⟨g, e, _⟩ := hq2 q; exact ⟨g, e⟩⟩
  clear hq1 hq2 h1 h2 hnS
  go_enter Tryz.func8, Tryz.ntmps8
  go_wp2_with fail
  go_loopw [5] (fun u wr => ∃ i : Nat, i ≤ n ∧ u = iv i ∧ Keep (w.grownBy wr none)) (fun u _ => (n - intOf u).toNat)
  case atStart => exact ⟨0, by omega, rfl, ⟨World.grownBy.refl _ _⟩⟩
  case round =>
    obtain ⟨i, hi, rfl, hG⟩ := hrel
    by_cases hlt : i < n
    · obtain ⟨s, hs⟩ : ∃ s, S[i]? = some s := ⟨_, List.getElem?_eq_getElem (by rw [HQ.out]; exact hlt)⟩
      obtain ⟨g1, rfl⟩ := HA1.out (by omega)
      obtain ⟨g2, rfl⟩ := HA2.out (by omega)
      have hi0 : (0 : Int) ≤ (i : Int) := by omega
      have hi1 : (i : Int) < (n : Nat) := by omega
      have hti : ((i : Nat) : Int).toNat = i := by omega
      have hwi : IntKind.i64.wrap ((i : Int) + 1) = ((i + 1 : Nat) : Int) := by rw [wi _ (by omega) (by omega)]; omega
      have HS : Keep (Lvr wr (.slice (some ⟨g1, 0, none⟩) n cap1) S ∧ Lvr wr (.slice (some ⟨g2, 0, none⟩) n cap2) S ∧ w.grownBy wr none) := ⟨HL.out.1.kept hG.out, HL.out.2.kept hG.out, hG.out⟩
      have HS0 : Keep (∀ W, wr.grownBy W none → (Lvr W (.slice (some ⟨g1, 0, none⟩) n cap1) S ∧ Lvr W (.slice (some ⟨g2, 0, none⟩) n cap2) S ∧ w.grownBy W none)) := ⟨fun W g => ⟨HS.out.1.kept g, HS.out.2.1.kept g, HS.out.2.2.trans g⟩⟩
      clear hG HS
      go_wp2_with fail
      refine wp_region_held_drew (S := fun w' => Lvr w' (.slice (some ⟨g1, 0, none⟩) n cap1) S ∧ Lvr w' (.slice (some ⟨g2, 0, none⟩) n cap2) S ∧ w.grownBy w' none) (by kernel_rfl) (HS0.out _ (gr_drew _ _)) (fun hHeld => ?_)
      clear HS0
      refine wpAnyH_take (i := 0) (oi := _) (v := ?_) rfl (by kernel_rfl) (by kernel_rfl) (by kernel_rfl) (fun _ _ _ h => h) (Or.inl ⟨by rfl, ?_⟩) (by assumption) ?_
      rotate_left
      · (intro w hSw; go_simp; first | done | (with_reducible rfl))
      simp only [Act.put, List.getElem_toArray, List.getElem_cons_zero, List.setIfInBounds_toArray, List.set_cons_zero, List.set_cons_succ]
      refine wpAnyH_take (i := 1) (oi := _) (v := ?_) rfl (by kernel_rfl) (by kernel_rfl) (by kernel_rfl) (fun _ _ _ h => h) (Or.inl ⟨by rfl, ?_⟩) (by assumption) ?_
      rotate_left
      · (intro w hSw; go_simp; first | done | (with_reducible rfl))
      simp only [Act.put, List.getElem_toArray, List.getElem_cons_succ, List.getElem_cons_zero, List.setIfInBounds_toArray, List.set_cons_zero, List.set_cons_succ]
      refine wpAnyH_take (i := 2) (oi := _) (v := ?_) rfl (by kernel_rfl) (by kernel_rfl) (by kernel_rfl) (fun _ _ _ h => h) (Or.inl ⟨by rfl, ?_⟩) (by assumption) ?_
      rotate_left
      · (intro w hSw; go_simp; first | done | (with_reducible rfl))
      simp only [Act.put, List.getElem_toArray, List.getElem_cons_succ, List.getElem_cons_zero, List.setIfInBounds_toArray, List.set_cons_zero, List.set_cons_succ]
      refine wpAnyH_take (i := 3) (oi := _) (v := ?_) rfl (by kernel_rfl) (by kernel_rfl) (by kernel_rfl) (fun _ _ _ h => h) (Or.inl ⟨by rfl, ?_⟩) (by assumption) ?_
      rotate_left
      · (intro w hSw; obtain ⟨y0, y1, y2, y3, y4, y5, y6⟩ := hSw.1.cells HQ.out hs; go_simp; first | done | (with_reducible rfl))
      simp only [Act.put, List.getElem_toArray, List.getElem_cons_succ, List.getElem_cons_zero, List.setIfInBounds_toArray, List.set_cons_zero, List.set_cons_succ]
      refine wpAnyH_take (i := 4) (oi := _) (v := ?_) rfl (by kernel_rfl) (by kernel_rfl) (by kernel_rfl) (fun _ _ _ h => h) (Or.inl ⟨by rfl, ?_⟩) (by assumption) ?_
      rotate_left
      · (intro w hSw; go_simp; first | done | (with_reducible rfl))
      simp only [Act.put, List.getElem_toArray, List.getElem_cons_succ, List.getElem_cons_zero, List.setIfInBounds_toArray, List.set_cons_zero, List.set_cons_succ]
      refine wpAnyH_take (i := 5) (oi := _) (v := ?_) rfl (by kernel_rfl) (by kernel_rfl) (by kernel_rfl) (fun _ _ _ h => h) (Or.inl ⟨by rfl, ?_⟩) (by assumption) ?_
      rotate_left
      · (intro w hSw; go_simp; first | done | (with_reducible rfl))
      simp only [Act.put, List.getElem_toArray, List.getElem_cons_succ, List.getElem_cons_zero, List.setIfInBounds_toArray, List.set_cons_zero, List.set_cons_succ]
      refine wpAnyH_take (i := 6) (oi := _) (v := ?_) rfl (by kernel_rfl) (by kernel_rfl) (by kernel_rfl) (fun _ _ _ h => h) (Or.inl ⟨by rfl, ?_⟩) (by assumption) ?_
      rotate_left
      · (intro w hSw; go_simp; first | done | (with_reducible rfl))
      simp only [Act.put, List.getElem_toArray, List.getElem_cons_succ, List.getElem_cons_zero, List.setIfInBounds_toArray, List.set_cons_zero, List.set_cons_succ]
      refine wpAnyH_take (i := 7) (oi := _) (v := ?_) rfl (by kernel_rfl) (by kernel_rfl) (by kernel_rfl) (fun _ _ _ h => h) (Or.inl ⟨by rfl, ?_⟩) (by assumption) ?_
      rotate_left
      · (intro w hSw; obtain ⟨y0, y1, y2, y3, y4, y5, y6⟩ := hSw.2.1.cells HQ.out hs; go_simp; first | done | (with_reducible rfl))
      simp only [Act.put, List.getElem_toArray, List.getElem_cons_succ, List.getElem_cons_zero, List.setIfInBounds_toArray, List.set_cons_zero, List.set_cons_succ]
      refine wpAnyH_take (i := 8) (oi := _) (v := .bool false) rfl (by kernel_rfl) (by kernel_rfl) (by kernel_rfl) (fun _ _ _ h => h) (Or.inl ⟨by rfl, ?_⟩) (by assumption) ?_
      · (intro w hSw; have hE := eq_same s w; go_simp; first | done | (simp; done) | trace_state)
      simp only [Act.put, List.getElem_toArray, List.getElem_cons_succ, List.getElem_cons_zero, List.setIfInBounds_toArray, List.set_cons_zero, List.set_cons_succ]
      refine wpAnyH_done (by kernel_rfl) ?_ _
      have HG := Keep.mk hHeld.2.2
      clear hHeld
      go_wp2_with fail
      go_roundw
      case rel => exact ⟨i + 1, by omega, rfl, HG⟩
      case measure => simp [intOf]; omega
    · have hi1 : ¬ (i : Int) < (n : Nat) := by omega
      go_wp2_with fail
      go_ret
      exact ⟨rfl, hG.out⟩
end Go.Proofs.YtplcicbpkbamnabGreatDoor.Lo

