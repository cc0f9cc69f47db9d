/- rows of cars and of numbers of the call's own -/
import Derived.Test.YtmacmoikjgmaoaaDoorH9
namespace Go.Proofs.YtmacmoikjgmaoaaDoor.Bo
open Go Go.RowKit

def crs (M : List Cr) : List Value := M.flatMap crv
theorem crs_len (M : List Cr) : (crs M).length = M.length * 14 := by
  induction M with
  | nil => rfl
  | cons c M ih =>
    have e : crs (c :: M) = crv c ++ crs M := rfl
    rw [e, List.length_append, ih, crv_len, List.length_cons]; omega
theorem crs_app (A B : List Cr) : crs (A ++ B) = crs A ++ crs B := by simp [crs]
theorem crs_one1 (c : Cr) : crs [c] = crv c := by simp [crs]
theorem crs_get : ∀ (M : List Cr) (j : Nat) (x : Cr) (r : Nat) (v : Value), M[j]? = some x → (crv x)[r]? = some v → (crs M)[j * 14 + r]? = some v
  | [], j, x, r, v, h, _ => by cases h
  | c :: M, 0, x, r, v, h, hv => by
    cases h
    have e : crs (c :: M) = crv c ++ crs M := rfl
    rw [e, Nat.zero_mul, Nat.zero_add, List.getElem?_append_left (List.getElem?_eq_some_iff.1 hv).1]
    exact hv
  | c :: M, j + 1, x, r, v, h, hv => by
    have e : crs (c :: M) = crv c ++ crs M := rfl
    rw [e, List.getElem?_append_right (by rw [crv_len]; omega), crv_len, show (j + 1) * 14 + r - 14 = j * 14 + r by omega]
    exact crs_get M j x r v (by simpa using h) hv
theorem crs_one (M : List Cr) : ∀ u ∈ crs M, u.oneCell' = true := by
  intro u hu
  unfold crs at hu
  rw [List.mem_flatMap] at hu
  obtain ⟨c, _, hc⟩ := hu
  exact crv_one c u hc
set_option maxRecDepth 100000 in
theorem info38b : ∃ i, Tryd.prog.info? 38 = some i ∧ i.size = 14 ∧ i.bytes = 120 ∧ i.zero = some (.agg zC14.toArray) := by
  cases h : Tryd.prog.info? 38 with
  | none =>
    have e : (Tryd.prog.info? 38).isSome = true := by kernel_rfl
    rw [h] at e; cases e
  | some i =>
    have e1 : (Tryd.prog.info? 38).map (·.size) = some 14 := by kernel_rfl
    have e2 : (Tryd.prog.info? 38).map (·.bytes) = some 120 := by kernel_rfl
    have e3 : (Tryd.prog.info? 38).map (·.zero) = some (some (.agg zC14.toArray)) := by kernel_rfl
    rw [h] at e1 e2 e3
    exact ⟨i, rfl, Option.some.inj e1, Option.some.inj e2, Option.some.inj e3⟩
set_option maxRecDepth 100000 in
theorem info3b : ∃ i, Tryd.prog.info? 3 = some i ∧ i.size = 1 ∧ i.bytes = 8 ∧ i.zero = some (iv 0) := by
  cases h : Tryd.prog.info? 3 with
  | none =>
    have e : (Tryd.prog.info? 3).isSome = true := by kernel_rfl
    rw [h] at e; cases e
  | some i =>
    have e1 : (Tryd.prog.info? 3).map (·.size) = some 1 := by kernel_rfl
    have e2 : (Tryd.prog.info? 3).map (·.bytes) = some 8 := by kernel_rfl
    have e3 : (Tryd.prog.info? 3).map (·.zero) = some (some (iv 0)) := by kernel_rfl
    rw [h] at e1 e2 e3
    exact ⟨i, rfl, Option.some.inj e1, Option.some.inj e2, Option.some.inj e3⟩
theorem under22 : Tryd.prog.underlying 22 = some (.slice 38) := by kernel_rfl
theorem under43 : Tryd.prog.underlying 43 = some (.slice 3) := by kernel_rfl
def crow (v : Value) (M : List Cr) : As := rowV 38 14 v M.length (crs M)
def nrow (v : Value) (F : List Int) : As := rowV 3 1 v F.length (F.map iv)
theorem Sep.car {w0 W : World} {l : List As} {v : Value} {M : List Cr} (c : Cr) (h : Sep w0 W (crow v M :: l)) (hn : M.length ≤ 10000000) :
    ∃ g q W', (Builtin.append_ #[22, 22] 22 #[v, .slice (some ⟨W.heap.size, 0, none⟩) 1 1]).run Tryd.prog (W.alloc (.cells (crv c).toArray 38)) = .ok (.slice (some ⟨g, 0, none⟩) (M.length + 1) q) W' ∧ Sep w0 W' (crow (.slice (some ⟨g, 0, none⟩) (M.length + 1) q) (M ++ [c]) :: l) := by
  obtain ⟨i, i1, i2, i3, i4⟩ := info38b
  obtain ⟨g, q, W', r1, r2⟩ := Sep.app (z := .agg zC14.toArray) (bytes := 120) under22 i1 i4 i2 i3 rfl (by decide) h (crv c) (crv_len c) (crv_one c) (by omega) (by decide)
  refine ⟨g, q, W', r1, ?_⟩
  rw [crow, crs_app, crs_one1, List.length_append]
  exact r2
theorem Sep.num {w0 W : World} {l : List As} {v : Value} {F : List Int} (c : Int) (h : Sep w0 W (nrow v F :: l)) (hn : F.length ≤ 10000000) :
    ∃ g q W', (Builtin.append_ #[43, 43] 43 #[v, .slice (some ⟨W.heap.size, 0, none⟩) 1 1]).run Tryd.prog (W.alloc (.cells #[iv c] 3)) = .ok (.slice (some ⟨g, 0, none⟩) (F.length + 1) q) W' ∧ Sep w0 W' (nrow (.slice (some ⟨g, 0, none⟩) (F.length + 1) q) (F ++ [c]) :: l) := by
  obtain ⟨i, i1, i2, i3, i4⟩ := info3b
  obtain ⟨g, q, W', r1, r2⟩ := Sep.app (z := iv 0) (bytes := 8) under43 i1 i4 i2 i3 rfl (by decide) h [iv c] rfl (fun u hu => by simp at hu; subst hu; rfl) (by omega) (by decide)
  refine ⟨g, q, W', r1, ?_⟩
  rw [nrow, List.map_append, List.length_append]
  exact r2
/-- a row of cars of the call's own, read -/
theorem crs_of {w0 W : World} {l : List As} {v : Value} {M : List Cr} (h : Sep w0 W l) (hm : crow v M ∈ l) (ok : ∀ c ∈ M, CrOk c) (hn : M.length ≤ 10000000) : Crs W v M := by
  have ho := h.rowGet hm
  obtain ⟨a, cap, e⟩ := own_slice ho
  refine ⟨⟨a, cap, e, fun hp => ?_⟩, ok, by omega⟩
  obtain ⟨g, c, e2, q⟩ := own_any ho hp
  rw [e] at e2
  injection e2 with e3
  exact ⟨g, 0, e3, fun j x hx r u hu => by
    rw [Nat.zero_add]
    exact (q _ _ (crs_get M j x r u hx hu)).1⟩
set_option maxRecDepth 100000 in
/-- a slice of one car is built -/
theorem bs_car (w : World) : ∀ (cs : List Value), cs.length = 14 → (Instr.buildSlice 22 1 #[(0, .agg cs.toArray)]).run Tryd.prog w = .ok (.slice (some ⟨w.heap.size, 0, none⟩) 1 1) (w.alloc (.cells cs.toArray 38))
  | c0 :: c1 :: c2 :: c3 :: c4 :: c5 :: c6 :: c7 :: c8 :: c9 :: c10 :: c11 :: c12 :: c13 :: [], _ => by kernel_rfl
theorem wpList_bs_run {P : Program} {w : World} {ops : Array Oper} {rest : List Oper} {o : Oper} {a : Act} {Q : Exit → Act → World → Prop} (hgd : o.guard = none) (x : Operand) (t : TypeId)
    (ho : o.op = .buildSlice t 1 #[(0, x)]) (v : Value) (hx : a.eval x = v) {v' : Value} {w' : World}
    (hr : (Instr.buildSlice t 1 #[(0, v)]).run P w = .ok v' w') (h : wpList P ops Q rest (a.put o.dst v') w') : wpList P ops Q (o :: rest) a w :=
  wpList_plain hgd fun _ hK => by
    unfold Oper.wp execOp
    simp only [ho, Sem.run_bind, Sem.run_pure, Result.andThen_ok, List.map_toArray, List.map_cons, List.map_nil, hx, hr]
    exact hK _ _ h
theorem bli_ok {pl : Int} (hp : In pl) {c : Cr} (h : CrOk c) (i : Nat) : CrOk (bli pl c i) := by
  unfold bli
  split
  · exact ⟨h.nm, hp, h.x, h.y, h.sx, h.sy, h.hd, h.he, h.en, h.am, h.co, h.wa, h.sp, h.sc⟩
  · exact h
theorem mix2_ok {pl : Int} (hp : In pl) {cs ws : List Cr} (hc : ∀ c ∈ cs, CrOk c) (hw : ∀ c ∈ ws, CrOk c) : ∀ i, ∀ p ∈ mix2 pl cs ws i, CrOk p.1
  | 0, p, h => by cases h
  | i + 1, p, h => by
    unfold mix2 stp at h
    rcases List.mem_append.1 h with h | h
    · exact mix2_ok hp hc hw i p h
    · rcases List.mem_append.1 h with h | h
      · cases e : ws[i]? with
        | none => rw [e] at h; cases h
        | some c =>
          rw [e] at h
          simp at h
          subst h
          exact bli_ok hp (hw c (List.mem_of_getElem? e)) i
      · cases e : cs[i]? with
        | none => rw [e] at h; cases h
        | some c =>
          rw [e] at h
          simp at h
          subst h
          exact hc c (List.mem_of_getElem? e)
theorem mix2_len (pl : Int) (cs ws : List Cr) : ∀ i, (mix2 pl cs ws i).length ≤ min i cs.length + min i ws.length
  | 0 => by simp [mix2]
  | i + 1 => by
    have ih := mix2_len pl cs ws i
    unfold mix2 stp
    rw [List.length_append, List.length_append]
    cases e : ws[i]? with
    | none =>
      cases e2 : cs[i]? with
      | none => simp; omega
      | some c =>
        have := (List.getElem?_eq_some_iff.1 e2).1
        simp; omega
    | some d =>
      have := (List.getElem?_eq_some_iff.1 e).1
      cases e2 : cs[i]? with
      | none => simp; omega
      | some c =>
        have := (List.getElem?_eq_some_iff.1 e2).1
        simp; omega
end Go.Proofs.YtmacmoikjgmaoaaDoor.Bo
