/- H9, HA -/
import Derived.Test.YtmacmoikjgmaoaaDoorL1
namespace Go.Proofs.YtmacmoikjgmaoaaDoor.Bo
open Go Go.RowKit

/-- a wreck as it is laid among the others -/
def bli (pl : Int) (c : Cr) (i : Nat) : Cr := if i % 2 = 0 ∨ c.wa ≤ 0 then { c with pl := pl } else c
def stp (pl : Int) (cs ws : List Cr) (i : Nat) : List (Cr × Int) :=
  (match ws[i]? with | some c => [(bli pl c i, -1)] | none => []) ++ (match cs[i]? with | some c => [(c, (i : Int))] | none => [])
def mix2 (pl : Int) (cs ws : List Cr) : Nat → List (Cr × Int)
  | 0 => []
  | i + 1 => mix2 pl cs ws i ++ stp pl cs ws i
theorem mt_bli {pl : Int} {t : Sh} (h : t.pl = pl) (c : Cr) (i : Nat) : mt t (bli pl c i) = false := by
  unfold bli
  split
  · unfold mt; simp [h]
  · rename_i q
    unfold mt
    have : 0 < c.wa := by omega
    simp [this]
structure Mx (cs : List Cr) (pl : Int) (i : Nat) (X : List (Cr × Int)) : Prop where
  a : ∀ (j : Nat) c k, X[j]? = some (c, k) → (k = -1 ∧ ∃ d n, c = bli pl d n) ∨ ∃ m : Nat, k = (m : Int) ∧ m < i ∧ cs[m]? = some c
  c : ∀ (m : Nat) c, m < i → cs[m]? = some c → ∃ j : Nat, X[j]? = some (c, (m : Int))
  d : ∀ (j1 j2 : Nat) c1 c2 (m1 m2 : Nat), X[j1]? = some (c1, (m1 : Int)) → X[j2]? = some (c2, (m2 : Int)) → j1 < j2 → m1 < m2
theorem mx_app1 {cs : List Cr} {pl : Int} {i : Nat} {X : List (Cr × Int)} (h : Mx cs pl i X) (d : Cr) (n : Nat) : Mx cs pl i (X ++ [(bli pl d n, -1)]) := by
  have key : ∀ (j : Nat) p, (X ++ [(bli pl d n, (-1 : Int))])[j]? = some p → X[j]? = some p ∨ (j = X.length ∧ p = (bli pl d n, -1)) := fun j p hp => by
    by_cases q : j < X.length
    · rw [List.getElem?_append_left q] at hp; exact .inl hp
    · rw [List.getElem?_append_right (by omega)] at hp
      have hj : j - X.length = 0 := by
        have := (List.getElem?_eq_some_iff.1 hp).1
        simp at this
        omega
      rw [hj] at hp
      simp at hp
      exact .inr ⟨by omega, hp.symm⟩
  refine ⟨fun j c k hj => ?_, fun m c hm hc => ?_, fun j1 j2 c1 c2 m1 m2 h1 h2 hlt => ?_⟩
  · rcases key j _ hj with q | ⟨_, q⟩
    · exact h.a j c k q
    · injection q with q1 q2
      exact .inl ⟨q2, d, n, q1⟩
  · obtain ⟨j, hj⟩ := h.c m c hm hc
    exact ⟨j, by rw [List.getElem?_append_left (List.getElem?_eq_some_iff.1 hj).1]; exact hj⟩
  · rcases key j1 _ h1 with q | ⟨_, q⟩
    · rcases key j2 _ h2 with r | ⟨_, r⟩
      · exact h.d j1 j2 c1 c2 m1 m2 q r hlt
      · injection r with _ r; omega
    · injection q with _ q; omega
theorem mx_app2 {cs : List Cr} {pl : Int} {i : Nat} {X : List (Cr × Int)} (h : Mx cs pl i X) {d : Cr} (hd : cs[i]? = some d) : Mx cs pl (i + 1) (X ++ [(d, (i : Int))]) := by
  have key : ∀ (j : Nat) p, (X ++ [(d, (i : Int))])[j]? = some p → X[j]? = some p ∨ (j = X.length ∧ p = (d, (i : Int))) := fun j p hp => by
    by_cases q : j < X.length
    · rw [List.getElem?_append_left q] at hp; exact .inl hp
    · rw [List.getElem?_append_right (by omega)] at hp
      have hj : j - X.length = 0 := by
        have := (List.getElem?_eq_some_iff.1 hp).1
        simp at this
        omega
      rw [hj] at hp
      simp at hp
      exact .inr ⟨by omega, hp.symm⟩
  refine ⟨fun j c k hj => ?_, fun m c hm hc => ?_, fun j1 j2 c1 c2 m1 m2 h1 h2 hlt => ?_⟩
  · rcases key j _ hj with q | ⟨_, q⟩
    · rcases h.a j c k q with r | ⟨m, r1, r2, r3⟩
      · exact .inl r
      · exact .inr ⟨m, r1, by omega, r3⟩
    · injection q with q1 q2
      exact .inr ⟨i, q2, by omega, by rw [q1]; exact hd⟩
  · by_cases q : m < i
    · obtain ⟨j, hj⟩ := h.c m c q hc
      exact ⟨j, by rw [List.getElem?_append_left (List.getElem?_eq_some_iff.1 hj).1]; exact hj⟩
    · obtain rfl : m = i := by omega
      rw [hd] at hc
      cases hc
      exact ⟨X.length, by rw [List.getElem?_append_right (Nat.le_refl _)]; simp⟩
  · rcases key j1 _ h1 with q | ⟨e1, q⟩
    · rcases key j2 _ h2 with r | ⟨_, r⟩
      · exact h.d j1 j2 c1 c2 m1 m2 q r hlt
      · injection r with _ r
        have hr : m2 = i := by omega
        rcases h.a j1 c1 m1 q with ⟨e, _⟩ | ⟨m, e, hm, _⟩
        · omega
        · omega
    · rcases key j2 _ h2 with r | ⟨e2, r⟩
      · have := (List.getElem?_eq_some_iff.1 r).1; omega
      · omega
theorem mx_skip {cs : List Cr} {pl : Int} {i : Nat} {X : List (Cr × Int)} (h : Mx cs pl i X) (hd : cs[i]? = none) : Mx cs pl (i + 1) X := by
  refine ⟨fun j c k hj => ?_, fun m c hm hc => ?_, h.d⟩
  · rcases h.a j c k hj with r | ⟨m, r1, r2, r3⟩
    · exact .inl r
    · exact .inr ⟨m, r1, by omega, r3⟩
  · by_cases q : m < i
    · exact h.c m c q hc
    · obtain rfl : m = i := by omega
      rw [hd] at hc; cases hc
theorem mx_mix (pl : Int) (cs ws : List Cr) : ∀ i, Mx cs pl i (mix2 pl cs ws i)
  | 0 => ⟨fun j c k h => (by cases h), fun m c h => (by omega), fun j1 j2 c1 c2 m1 m2 h => (by cases h)⟩
  | i + 1 => by
    have h := mx_mix pl cs ws i
    unfold mix2 stp
    cases hw : ws[i]? with
    | none =>
      cases hc : cs[i]? with
      | none => simpa using mx_skip h hc
      | some c => simpa using mx_app2 h hc
    | some d =>
      cases hc : cs[i]? with
      | none => simpa using mx_skip (mx_app1 h d i) hc
      | some c => simpa using mx_app2 (mx_app1 h d i) hc
/-- which car was hit, in both lists -/
def Rl (F : List Int) : Option Int → Option Int → Prop
  | none, none => True
  | some i, some j => (i = -1 ∧ j = -1) ∨ ∃ k : Nat, j = (k : Int) ∧ 0 ≤ i ∧ F[k]? = some i
  | _, _ => False
theorem find_mix {cs : List Cr} {pl : Int} {i : Nat} {X : List (Cr × Int)} (h : Mx cs pl i X) (hi : cs.length ≤ i) {t : Sh} (ht : t.pl = pl) :
    (cs.findIdx? (mt t) = none ∧ (X.map Prod.fst).findIdx? (mt t) = none) ∨ ∃ (a b : Nat), cs.findIdx? (mt t) = some a ∧ (X.map Prod.fst).findIdx? (mt t) = some b ∧ (X.map Prod.snd)[b]? = some (a : Int) := by
  cases hf : cs.findIdx? (mt t) with
  | none =>
    left
    refine ⟨rfl, find_none fun j y hj hy => ?_⟩
    rw [List.getElem?_map] at hy
    cases hx : X[j]? with
    | none => rw [hx] at hy; cases hy
    | some p =>
      obtain ⟨c, k⟩ := p
      rw [hx] at hy
      simp at hy
      subst hy
      rcases h.a j c k hx with ⟨_, d, n, rfl⟩ | ⟨m, _, _, hm⟩
      · exact mt_bli ht d n
      · rw [List.findIdx?_eq_none_iff] at hf
        exact hf c (List.mem_of_getElem? hm)
  | some a =>
    right
    obtain ⟨h1, h2, h3⟩ := List.findIdx?_eq_some_iff_getElem.1 hf
    obtain ⟨j, hj⟩ := h.c a cs[a] (by omega) (List.getElem?_eq_getElem h1)
    refine ⟨a, j, rfl, find_here (x := cs[a]) (by rw [List.getElem?_map, hj]; rfl) h2 (fun j' y hj' hy => ?_), by rw [List.getElem?_map, hj]; rfl⟩
    rw [List.getElem?_map] at hy
    cases hx : X[j']? with
    | none => rw [hx] at hy; cases hy
    | some p =>
      obtain ⟨c, k⟩ := p
      rw [hx] at hy
      simp at hy
      subst hy
      rcases h.a j' c k hx with ⟨_, d, n, rfl⟩ | ⟨m, rfl, _, hm⟩
      · exact mt_bli ht d n
      · have hlt := h.d j' j c cs[a] m a hx hj hj'
        have := h3 m hlt
        obtain ⟨q1, q2⟩ := List.getElem?_eq_some_iff.1 hm
        rw [q2] at this
        simpa using this
theorem fly_mix {L : Bo} {cs : List Cr} {pl : Int} {i : Nat} {X : List (Cr × Int)} (h : Mx cs pl i X) (hi : cs.length ≤ i) : ∀ (n : Nat) (t : Sh), t.pl = pl →
    (fly L cs n t).1 = (fly L (X.map Prod.fst) n t).1 ∧ Rl (X.map Prod.snd) (fly L cs n t).2 (fly L (X.map Prod.fst) n t).2
  | 0, _, _ => ⟨rfl, trivial⟩
  | n + 1, t, ht => by
    cases hs : slid L (nxt t) with
    | true => rw [fly_wall hs, fly_wall hs]; exact ⟨rfl, .inl ⟨rfl, rfl⟩⟩
    | false =>
      rcases find_mix h hi (t := nxt t) ht with ⟨q1, q2⟩ | ⟨a, b, q1, q2, q3⟩
      · rw [fly_on hs q1, fly_on hs q2]
        exact fly_mix h hi n (nxt t) ht
      · rw [fly_hit hs q1, fly_hit hs q2]
        exact ⟨rfl, .inr ⟨b, rfl, by omega, q3⟩⟩
theorem mov_mix {L : Bo} {cs : List Cr} {s : Sh} {i : Nat} {X : List (Cr × Int)} (h : Mx cs s.pl i X) (hi : cs.length ≤ i) :
    (mov L (X.map Prod.fst) s).1 = (mov L cs s).1 ∧ (mov L (X.map Prod.fst) s).2.2 = (mov L cs s).2.2 ∧
    (((mov L cs s).2.1 = -1 ∧ (mov L (X.map Prod.fst) s).2.1 = -1) ∨ ∃ k : Nat, (mov L (X.map Prod.fst) s).2.1 = (k : Int) ∧ 0 ≤ (mov L cs s).2.1 ∧ (X.map Prod.snd)[k]? = some (mov L cs s).2.1) := by
  obtain ⟨h1, h2⟩ := fly_mix (L := L) h hi 4 s rfl
  unfold mov
  rw [h1]
  generalize (fly L cs 4 s).2 = o at h2
  generalize (fly L (X.map Prod.fst) 4 s).2 = o' at h2
  generalize (fly L (X.map Prod.fst) 4 s).1 = t
  match o, o', h2 with
  | none, none, _ => exact ⟨rfl, rfl, .inl ⟨rfl, rfl⟩⟩
  | some a, some b, h2 =>
    refine ⟨rfl, rfl, ?_⟩
    rcases h2 with ⟨rfl, rfl⟩ | ⟨k, rfl, h3, h4⟩
    · exact .inl ⟨rfl, rfl⟩
    · exact .inr ⟨k, rfl, h3, h4⟩
end Go.Proofs.YtmacmoikjgmaoaaDoor.Bo

namespace Go.Proofs.YtmacmoikjgmaoaaDoor.Bo
open Go Go.RowKit

def crs (M : List Cr) : List Value := M.flatMap crv
theorem crs_len (M : List Cr) : (crs M).length = M.length * 14 := by
  induction M with
  | nil => rfl
  | cons c M ih =>
    have e : crs (c :: M) = crv c ++ crs M := rfl
    rw [e, List.length_append, ih, crv_len, List.length_cons]; omega
theorem crs_app (A B : List Cr) : crs (A ++ B) = crs A ++ crs B := by simp [crs]
theorem crs_one1 (c : Cr) : crs [c] = crv c := by simp [crs]
theorem crs_get : ∀ (M : List Cr) (j : Nat) (x : Cr) (r : Nat) (v : Value), M[j]? = some x → (crv x)[r]? = some v → (crs M)[j * 14 + r]? = some v
  | [], j, x, r, v, h, _ => by cases h
  | c :: M, 0, x, r, v, h, hv => by
    cases h
    have e : crs (c :: M) = crv c ++ crs M := rfl
    rw [e, Nat.zero_mul, Nat.zero_add, List.getElem?_append_left (List.getElem?_eq_some_iff.1 hv).1]
    exact hv
  | c :: M, j + 1, x, r, v, h, hv => by
    have e : crs (c :: M) = crv c ++ crs M := rfl
    rw [e, List.getElem?_append_right (by rw [crv_len]; omega), crv_len, show (j + 1) * 14 + r - 14 = j * 14 + r by omega]
    exact crs_get M j x r v (by simpa using h) hv
theorem crs_one (M : List Cr) : ∀ u ∈ crs M, u.oneCell' = true := by
  intro u hu
  unfold crs at hu
  rw [List.mem_flatMap] at hu
  obtain ⟨c, _, hc⟩ := hu
  exact crv_one c u hc
set_option maxRecDepth 100000 in
theorem info38b : ∃ i, Tryd.prog.info? 38 = some i ∧ i.size = 14 ∧ i.bytes = 120 ∧ i.zero = some (.agg zC14.toArray) := by
  cases h : Tryd.prog.info? 38 with
  | none =>
    have e : (Tryd.prog.info? 38).isSome = true := by kernel_rfl
    rw [h] at e; cases e
  | some i =>
    have e1 : (Tryd.prog.info? 38).map (·.size) = some 14 := by kernel_rfl
    have e2 : (Tryd.prog.info? 38).map (·.bytes) = some 120 := by kernel_rfl
    have e3 : (Tryd.prog.info? 38).map (·.zero) = some (some (.agg zC14.toArray)) := by kernel_rfl
    rw [h] at e1 e2 e3
    exact ⟨i, rfl, Option.some.inj e1, Option.some.inj e2, Option.some.inj e3⟩
set_option maxRecDepth 100000 in
theorem info3b : ∃ i, Tryd.prog.info? 3 = some i ∧ i.size = 1 ∧ i.bytes = 8 ∧ i.zero = some (iv 0) := by
  cases h : Tryd.prog.info? 3 with
  | none =>
    have e : (Tryd.prog.info? 3).isSome = true := by kernel_rfl
    rw [h] at e; cases e
  | some i =>
    have e1 : (Tryd.prog.info? 3).map (·.size) = some 1 := by kernel_rfl
    have e2 : (Tryd.prog.info? 3).map (·.bytes) = some 8 := by kernel_rfl
    have e3 : (Tryd.prog.info? 3).map (·.zero) = some (some (iv 0)) := by kernel_rfl
    rw [h] at e1 e2 e3
    exact ⟨i, rfl, Option.some.inj e1, Option.some.inj e2, Option.some.inj e3⟩
theorem under22 : Tryd.prog.underlying 22 = some (.slice 38) := by kernel_rfl
theorem under43 : Tryd.prog.underlying 43 = some (.slice 3) := by kernel_rfl
def crow (v : Value) (M : List Cr) : As := rowV 38 14 v M.length (crs M)
def nrow (v : Value) (F : List Int) : As := rowV 3 1 v F.length (F.map iv)
theorem Sep.car {w0 W : World} {l : List As} {v : Value} {M : List Cr} (c : Cr) (h : Sep w0 W (crow v M :: l)) (hn : M.length ≤ 10000000) :
    ∃ g q W', (Builtin.append_ #[22, 22] 22 #[v, .slice (some ⟨W.heap.size, 0, none⟩) 1 1]).run Tryd.prog (W.alloc (.cells (crv c).toArray 38)) = .ok (.slice (some ⟨g, 0, none⟩) (M.length + 1) q) W' ∧ Sep w0 W' (crow (.slice (some ⟨g, 0, none⟩) (M.length + 1) q) (M ++ [c]) :: l) := by
  obtain ⟨i, i1, i2, i3, i4⟩ := info38b
  obtain ⟨g, q, W', r1, r2⟩ := Sep.app (z := .agg zC14.toArray) (bytes := 120) under22 i1 i4 i2 i3 rfl (by decide) h (crv c) (crv_len c) (crv_one c) (by omega) (by decide)
  refine ⟨g, q, W', r1, ?_⟩
  rw [crow, crs_app, crs_one1, List.length_append]
  exact r2
theorem Sep.num {w0 W : World} {l : List As} {v : Value} {F : List Int} (c : Int) (h : Sep w0 W (nrow v F :: l)) (hn : F.length ≤ 10000000) :
    ∃ g q W', (Builtin.append_ #[43, 43] 43 #[v, .slice (some ⟨W.heap.size, 0, none⟩) 1 1]).run Tryd.prog (W.alloc (.cells #[iv c] 3)) = .ok (.slice (some ⟨g, 0, none⟩) (F.length + 1) q) W' ∧ Sep w0 W' (nrow (.slice (some ⟨g, 0, none⟩) (F.length + 1) q) (F ++ [c]) :: l) := by
  obtain ⟨i, i1, i2, i3, i4⟩ := info3b
  obtain ⟨g, q, W', r1, r2⟩ := Sep.app (z := iv 0) (bytes := 8) under43 i1 i4 i2 i3 rfl (by decide) h [iv c] rfl (fun u hu => by simp at hu; subst hu; rfl) (by omega) (by decide)
  refine ⟨g, q, W', r1, ?_⟩
  rw [nrow, List.map_append, List.length_append]
  exact r2
/-- a row of cars of the call's own, read -/
theorem crs_of {w0 W : World} {l : List As} {v : Value} {M : List Cr} (h : Sep w0 W l) (hm : crow v M ∈ l) (ok : ∀ c ∈ M, CrOk c) (hn : M.length ≤ 10000000) : Crs W v M := by
  have ho := h.rowGet hm
  obtain ⟨a, cap, e⟩ := own_slice ho
  refine ⟨⟨a, cap, e, fun hp => ?_⟩, ok, by omega⟩
  obtain ⟨g, c, e2, q⟩ := own_any ho hp
  rw [e] at e2
  injection e2 with e3
  exact ⟨g, 0, e3, fun j x hx r u hu => by
    rw [Nat.zero_add]
    exact (q _ _ (crs_get M j x r u hx hu)).1⟩
set_option maxRecDepth 100000 in
/-- a slice of one car is built -/
theorem bs_car (w : World) : ∀ (cs : List Value), cs.length = 14 → (Instr.buildSlice 22 1 #[(0, .agg cs.toArray)]).run Tryd.prog w = .ok (.slice (some ⟨w.heap.size, 0, none⟩) 1 1) (w.alloc (.cells cs.toArray 38))
  | c0 :: c1 :: c2 :: c3 :: c4 :: c5 :: c6 :: c7 :: c8 :: c9 :: c10 :: c11 :: c12 :: c13 :: [], _ => by kernel_rfl
theorem wpList_bs_run {P : Program} {w : World} {ops : Array Oper} {rest : List Oper} {o : Oper} {a : Act} {Q : Exit → Act → World → Prop} (hgd : o.guard = none) (x : Operand) (t : TypeId)
    (ho : o.op = .buildSlice t 1 #[(0, x)]) (v : Value) (hx : a.eval x = v) {v' : Value} {w' : World}
    (hr : (Instr.buildSlice t 1 #[(0, v)]).run P w = .ok v' w') (h : wpList P ops Q rest (a.put o.dst v') w') : wpList P ops Q (o :: rest) a w :=
  wpList_plain hgd fun _ hK => by
    unfold Oper.wp execOp
    simp only [ho, Sem.run_bind, Sem.run_pure, Result.andThen_ok, List.map_toArray, List.map_cons, List.map_nil, hx, hr]
    exact hK _ _ h
theorem bli_ok {pl : Int} (hp : In pl) {c : Cr} (h : CrOk c) (i : Nat) : CrOk (bli pl c i) := by
  unfold bli
  split
  · exact ⟨h.nm, hp, h.x, h.y, h.sx, h.sy, h.hd, h.he, h.en, h.am, h.co, h.wa, h.sp, h.sc⟩
  · exact h
theorem mix2_ok {pl : Int} (hp : In pl) {cs ws : List Cr} (hc : ∀ c ∈ cs, CrOk c) (hw : ∀ c ∈ ws, CrOk c) : ∀ i, ∀ p ∈ mix2 pl cs ws i, CrOk p.1
  | 0, p, h => by cases h
  | i + 1, p, h => by
    unfold mix2 stp at h
    rcases List.mem_append.1 h with h | h
    · exact mix2_ok hp hc hw i p h
    · rcases List.mem_append.1 h with h | h
      · cases e : ws[i]? with
        | none => rw [e] at h; cases h
        | some c =>
          rw [e] at h
          simp at h
          subst h
          exact bli_ok hp (hw c (List.mem_of_getElem? e)) i
      · cases e : cs[i]? with
        | none => rw [e] at h; cases h
        | some c =>
          rw [e] at h
          simp at h
          subst h
          exact hc c (List.mem_of_getElem? e)
theorem mix2_len (pl : Int) (cs ws : List Cr) : ∀ i, (mix2 pl cs ws i).length ≤ min i cs.length + min i ws.length
  | 0 => by simp [mix2]
  | i + 1 => by
    have ih := mix2_len pl cs ws i
    unfold mix2 stp
    rw [List.length_append, List.length_append]
    cases e : ws[i]? with
    | none =>
      cases e2 : cs[i]? with
      | none => simp; omega
      | some c =>
        have := (List.getElem?_eq_some_iff.1 e2).1
        simp; omega
    | some d =>
      have := (List.getElem?_eq_some_iff.1 e).1
      cases e2 : cs[i]? with
      | none => simp; omega
      | some c =>
        have := (List.getElem?_eq_some_iff.1 e2).1
        simp; omega
end Go.Proofs.YtmacmoikjgmaoaaDoor.Bo
