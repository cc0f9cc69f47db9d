/- SmoothSelf -/
import Derived.Test.YtfhhneibdmjfgabB2
import Derived.Test.YtfhhneibdmjfgabF1
namespace Go.Proofs.Ytfhhneibdmjfgab
open Go Go.RowKit Go.Maps Sm
set_option maxRecDepth 100000
attribute [local go_sem] run_store_fl
theorem Sep.merge {w0 W W' : World} {l l' : List As} (h : Sep w0 W l) (k : Sep W W' l') : Sep w0 W' (l' ++ l) := by
  obtain ⟨m, h1, h2, h3⟩ := k.ex
  exact h.new k.g ⟨m, h1, fun p hp => ⟨(h2 p hp).1, fun i hi => .inr ((h2 p hp).2 i hi)⟩, h3⟩
theorem und29 : ∃ d, Try.prog.underlying 29 = some d ∧ d.isRow = true := ⟨_, Try.underlying29, rfl⟩
theorem info29 : (Try.prog.info? 29).map (·.size) = some 16 := by kernel_rfl
theorem builtV (p : Int) (n : ByteArray) (x y u v h he en am co wt sp sc : Int) : Try.prog.built 29 [(1, .agg #[iv p, .string n, iv x, iv y, iv u, iv v, iv h, iv he, iv en, iv am, iv co, iv wt, iv sp, iv sc])] = some #[.int .u64 0, iv p, .string n, iv x, iv y, iv u, iv v, iv h, iv he, iv en, iv am, iv co, iv wt, iv sp, iv sc, .slice none 0 0] := by kernel_rfl
theorem rdS_nil (W : World) : RdS W (.slice none 0 0) [] := ⟨⟨none, 0, rfl, fun h => by simp at h⟩⟩
theorem eqT {x y : Nat} (h : eqF x y = true) (w : World) : (Op.equalIn 9999 30 (fv x) (fv y)).run Try.prog w = .ok true w := by
  have q := eqFl 9998 x y w
  rw [h] at q
  exact q
theorem and3 {a b c : Bool} (h : (a && (b && c)) = true) : a = true ∧ b = true ∧ c = true := by
  cases a <;> cases b <;> cases c <;> simp at h ⊢
/-- no two of a kind and an id, up to i -/
def Nd (L : List Sn) (i : Nat) : Prop := ∀ p q x y, p < q → q < i → L[p]? = some x → L[q]? = some y → ¬ (y.k = x.k ∧ y.i = x.i)
theorem fst1_nd {L : List Sn} (h : Nd L L.length) {i : Nat} {s : Sn} (hs : L[i]? = some s) : fst1 L (s.k, s.i) = some s := by
  unfold fst1
  rw [List.find?_eq_some_iff_getElem]
  obtain ⟨hi, e⟩ := List.getElem?_eq_some_iff.1 hs
  refine ⟨by simp, i, hi, e, fun j hj => ?_⟩
  have hj2 : j < L.length := by omega
  have := h j i L[j] s hj hi (List.getElem?_eq_getElem hj2) hs
  simp only [Bool.not_eq_true', decide_eq_false_iff_not]
  intro q
  exact this ⟨q.1.symm, q.2.symm⟩
theorem fm_all {L B : List Sn} {t : OF} {f : Sn → Pl} (h : ∀ s ∈ L, oneV B t s = some (f s)) : L.filterMap (oneV B t) = L.map f := by
  induction L with
  | nil => rfl
  | cons x r ih =>
    rw [List.filterMap_cons, h x (List.mem_cons_self ..), List.map_cons, ih (fun s hs => h s (List.mem_cons_of_mem _ hs))]
def ofS (s : Sn) : Pl := ofV s.x s.y s.h
theorem fm_self {L : List Sn} (h : Nd L L.length) (t : OF) : L.filterMap (oneV L t) = L.map (fun s => mixV (ofS s) (ofS s) t) := by
  refine fm_all fun s hs => ?_
  obtain ⟨i, hi⟩ := List.getElem?_of_mem hs
  unfold oneV
  rw [fst1_nd h hi]
  rfl
theorem fm_none {L : List Sn} (t : OF) : L.filterMap (oneV [] t) = [] := by
  induction L with
  | nil => rfl
  | cons x r ih => rw [List.filterMap_cons]; exact ih
/-- what is shown is where Of shows it -/
theorem shown_eq {p r : Pt} {x y h : Int} {t : Nat} (hx : I64 x) (hy : I64 y) (hr : vP r = mixV (ofV x y h) (ofV x y h) (V t)) (hp : vP p = ofV x y h) : (eqF r.x p.x && (eqF r.y p.y && eqF r.a p.a)) = true := by
  obtain ⟨m1, m2, m3⟩ := mix_self x y h t hx hy
  have e : mixV (ofV x y h) (ofV x y h) (V t) = mixS (ofV x y h) (V t) := rfl
  rw [e] at hr
  rw [← hr, ← hp] at m1 m2 m3
  have q1 : eqF r.x p.x = true := by rw [eqF_V]; simp only [vP] at m1; rw [m1]; rfl
  have q2 : eqF r.y p.y = true := by rw [eqF_V]; simp only [vP] at m2; rw [m2]; rfl
  have q3 : eqF r.a p.a = true := by rw [eqF_V]; simp only [vP] at m3; rw [m3]; rfl
  rw [q1, q2, q3]; rfl
/-- the cells of a row of places -/
theorem pls_get {P : List Pt} {j : Nat} {p : Pt} (h : P[j]? = some p) : (pls P)[j * 3]? = some (fv p.x) ∧ (pls P)[j * 3 + 1]? = some (fv p.y) ∧ (pls P)[j * 3 + 2]? = some (fv p.a) := by
  induction P generalizing j with
  | nil => cases h
  | cons x r ih =>
    cases j with
    | zero => cases h; exact ⟨rfl, rfl, rfl⟩
    | succ j =>
      have := ih (show r[j]? = some p from h)
      have e : pls (x :: r) = ptv x ++ pls r := rfl
      rw [e]
      have l3 : (ptv x).length = 3 := rfl
      refine ⟨?_, ?_, ?_⟩
      · rw [List.getElem?_append_right (by rw [l3]; omega), l3, show (j + 1) * 3 - 3 = j * 3 by omega]; exact this.1
      · rw [List.getElem?_append_right (by rw [l3]; omega), l3, show (j + 1) * 3 + 1 - 3 = j * 3 + 1 by omega]; exact this.2.1
      · rw [List.getElem?_append_right (by rw [l3]; omega), l3, show (j + 1) * 3 + 2 - 3 = j * 3 + 2 by omega]; exact this.2.2
theorem row_cells {W : World} {g n c : Nat} {P : List Pt} (h : W.ownsRow 0 42 3 (.slice (some ⟨g, 0, none⟩) n c) n (pls P)) (hn : 0 < n) {j : Nat} {p : Pt} (hp : P[j]? = some p) : W.cell? ⟨g, j * 3, none⟩ = some (fv p.x) ∧ W.cell? ⟨g, j * 3 + 1, none⟩ = some (fv p.y) ∧ W.cell? ⟨g, j * 3 + 2, none⟩ = some (fv p.a) := by
  obtain ⟨g', c', e, q⟩ := own_any h hn
  injection e with e _ _
  injection e with e
  injection e with e _ _
  subst e
  obtain ⟨a1, a2, a3⟩ := pls_get hp
  exact ⟨(q _ _ a1).1, (q _ _ a2).1, (q _ _ a3).1⟩
end Go.Proofs.Ytfhhneibdmjfgab
