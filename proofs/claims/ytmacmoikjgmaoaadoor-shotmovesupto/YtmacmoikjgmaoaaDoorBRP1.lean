/- the reference: Parse. -/
import Derived.Test.YtmacmoikjgmaoaaDoorBRA3
import Derived.Test.YtmacmoikjgmaoaaDoorBP4
namespace Go.Proofs.YtmacmoikjgmaoaaDoor.Bo
open Go Go.RowKit

abbrev i32 (c : Int) : Value := .int .i32 c
set_option maxRecDepth 100000 in
theorem info21 : ∃ i, Tryd.prog.info? 21 = some i ∧ i.size = 1 ∧ i.bytes = 4 ∧ i.zero = some (.int .i32 0) := by
  have h : (Tryd.prog.info? 21).map (fun i => (i.size, i.bytes, i.zero)) = some (1, 4, some (.int .i32 0)) := by kernel_rfl
  cases hq : Tryd.prog.info? 21 with
  | none => simp [hq] at h
  | some i =>
    simp only [hq, Option.map_some, Option.some.injEq, Prod.mk.injEq] at h
    exact ⟨i, rfl, h.1, h.2.1, h.2.2⟩
set_option maxRecDepth 100000 in
theorem infoT70 : ∃ i, Tryd.prog.info? 78 = some i ∧ i.size = 1 ∧ i.bytes = 24 ∧ i.zero = some (.slice none 0 0) := by
  have h : (Tryd.prog.info? 78).map (fun i => (i.size, i.bytes, i.zero)) = some (1, 24, some (.slice none 0 0)) := by kernel_rfl
  cases hq : Tryd.prog.info? 78 with
  | none => simp [hq] at h
  | some i =>
    simp only [hq, Option.map_some, Option.some.injEq, Prod.mk.injEq] at h
    exact ⟨i, rfl, h.1, h.2.1, h.2.2⟩
set_option maxRecDepth 100000 in
theorem underT71 : Tryd.prog.underlying 75 = some (.slice 78) := by kernel_rfl
set_option maxRecDepth 100000 in
theorem Sep.rune {w0 W : World} {l : List As} {v : Value} {xs : List Value} (c : Value) (hc : c.oneCell' = true) (h : Sep w0 W (rowV 21 1 v xs.length xs :: l)) (hn : xs.length ≤ 10000000) :
    ∃ g k W', (Builtin.append_ #[78, 78] 78 #[v, .slice (some ⟨W.heap.size, 0, none⟩) 1 1]).run Tryd.prog (W.alloc (.cells #[c] 21)) = .ok (.slice (some ⟨g, 0, none⟩) (xs.length + 1) k) W' ∧ Sep w0 W' (rowV 21 1 (.slice (some ⟨g, 0, none⟩) (xs.length + 1) k) (xs ++ [c]).length (xs ++ [c]) :: l) := by
  obtain ⟨i, i1, i2, i3, i4⟩ := info21
  obtain ⟨g, k, W', r1, r2⟩ := Sep.app underT70 i1 i4 i2 i3 rfl (by decide) h [c] rfl (fun u hu => by rw [List.mem_singleton] at hu; subst hu; exact hc) (by omega) (by decide)
  refine ⟨g, k, W', r1, ?_⟩
  rw [List.length_append]
  exact r2
set_option maxRecDepth 100000 in
theorem Sep.rline {w0 W : World} {l : List As} {v : Value} {xs : List Value} (c : Value) (hc : c.oneCell' = true) (h : Sep w0 W (rowV 78 1 v xs.length xs :: l)) (hn : xs.length ≤ 10000000) :
    ∃ g k W', (Builtin.append_ #[75, 75] 75 #[v, .slice (some ⟨W.heap.size, 0, none⟩) 1 1]).run Tryd.prog (W.alloc (.cells #[c] 78)) = .ok (.slice (some ⟨g, 0, none⟩) (xs.length + 1) k) W' ∧ Sep w0 W' (rowV 78 1 (.slice (some ⟨g, 0, none⟩) (xs.length + 1) k) (xs ++ [c]).length (xs ++ [c]) :: l) := by
  obtain ⟨i, i1, i2, i3, i4⟩ := infoT70
  obtain ⟨g, k, W', r1, r2⟩ := Sep.app underT71 i1 i4 i2 i3 rfl (by decide) h [c] rfl (fun u hu => by rw [List.mem_singleton] at hu; subst hu; exact hc) (by omega) (by decide)
  refine ⟨g, k, W', r1, ?_⟩
  rw [List.length_append]
  exact r2
abbrev irow (v : Value) (l : List Int) : As := rowV 21 1 v l.length (l.map i32)
def dnr (D : Dn) : List As := D.map fun p => irow p.1 p.2
abbrev mrow (v : Value) (D : Dn) : As := rowV 78 1 v D.length (D.map (·.1))
/-- a line becomes one of those that are through: the reference's box of lines -/
theorem Sep.rpush {w0 W : World} {kb : Nat} {vl vt : Value} {D : Dn} {l : List Int} {R : List As} (h : Sep w0 W (boxA kb [vl] 77 :: mrow vl D :: irow vt l :: R)) (ht : vt.oneCell' = true) (hn : D.length ≤ 10000000) :
    ∃ g k W', (Builtin.append_ #[75, 75] 75 #[vl, .slice (some ⟨W.heap.size, 0, none⟩) 1 1]).run Tryd.prog (W.alloc (.cells #[vt] 78)) = .ok (.slice (some ⟨g, 0, none⟩) (D.length + 1) k) W' ∧ W'.cell? ⟨kb, 0, none⟩ = some vl ∧ W'.frozen? ⟨kb, 0, none⟩ = false ∧
      Sep w0 (W'.setCell ⟨kb, 0, none⟩ (.slice (some ⟨g, 0, none⟩) (D.length + 1) k)) (boxA kb [.slice (some ⟨g, 0, none⟩) (D.length + 1) k] 77 :: mrow (.slice (some ⟨g, 0, none⟩) (D.length + 1) k) (D ++ [(vt, l)]) :: irow vt l :: R) := by
  obtain ⟨g, k, W', r1, r2⟩ := Sep.rline vt ht (show Sep w0 W (rowV 78 1 vl (D.map (·.1)).length (D.map (·.1)) :: boxA kb [vl] 77 :: irow vt l :: R) by rw [List.length_map]; exact h.swap) (by rw [List.length_map]; exact hn)
  rw [List.length_map] at r1 r2
  rw [List.length_append, List.length_map] at r2
  have e : mrow (.slice (some ⟨g, 0, none⟩) (D.length + 1) k) (D ++ [(vt, l)]) = rowV 78 1 (.slice (some ⟨g, 0, none⟩) (D.length + 1) k) (D.length + [vt].length) (D.map (·.1) ++ [vt]) := by
    rw [mrow, List.map_append, List.length_append]
    rfl
  refine ⟨g, k, W', r1, (r2.boxGet k1m).cellv 0 _ rfl, (r2.boxGet k1m).frozen 0, ?_⟩
  rw [e]
  exact r2.swap.boxPut 0 _
/-- a cell of a line is written -/
theorem Sep.rset {w0 W : World} {A : List As} {D : Dn} {y x k n c : Nat} {l : List Int} (h : Sep w0 W (A ++ dnr D)) (hy : D[y]? = some (.slice (some ⟨k, 0, none⟩) n c, l)) (hn : l.length = n) (u : Int) : Sep w0 (W.setCell ⟨k, x, none⟩ (i32 u)) (A ++ dnr (D.set y (.slice (some ⟨k, 0, none⟩) n c, l.set x u))) := by
  subst hn
  obtain ⟨hy1, hy2⟩ := List.getElem?_eq_some_iff.1 hy
  have e1 : dnr D = dnr (D.take y) ++ irow (.slice (some ⟨k, 0, none⟩) l.length c) l :: dnr (D.drop (y + 1)) := by
    have : D = D.take y ++ D[y] :: D.drop (y + 1) := by rw [← List.drop_eq_getElem_cons hy1, List.take_append_drop]
    unfold dnr
    rw [← List.map_cons (f := fun p : Value × List Int => irow p.1 p.2) (a := (.slice (some ⟨k, 0, none⟩) l.length c, l)), ← List.map_append, ← hy2, ← this]
  have e2 : dnr (D.set y (.slice (some ⟨k, 0, none⟩) l.length c, l.set x u)) = dnr (D.take y) ++ irow (.slice (some ⟨k, 0, none⟩) l.length c) (l.set x u) :: dnr (D.drop (y + 1)) := by
    unfold dnr
    rw [List.set_eq_take_append_cons_drop, if_pos hy1, List.map_append, List.map_cons]
  rw [e1, ← List.append_assoc] at h
  rw [e2, ← List.append_assoc]
  refine bk1 _ ?_
  have h2 := (fr1 _ h).rowSet x (i32 u)
  rw [irow, List.length_set, List.map_set]
  exact h2
set_option maxRecDepth 100000 in
theorem Sep.rcellD {w0 W : World} {A : List As} {D : Dn} {y : Nat} {v : Value} {l : List Int} (h : Sep w0 W (A ++ dnr D)) (hy : D[y]? = some (v, l)) (hl : 0 < l.length) : ∃ k c, v = .slice (some ⟨k, 0, none⟩) l.length c ∧ l.length ≤ c ∧ ∀ (x : Nat) u, l[x]? = some u → W.cell? ⟨k, x, none⟩ = some (i32 u) ∧ W.frozen? ⟨k, x, none⟩ = false := by
  have h1 : W.ownsRow 0 21 1 v l.length (l.map i32) := h.rowGet (List.mem_append_right _ (List.mem_map.2 ⟨_, List.mem_of_getElem? hy, rfl⟩))
  obtain ⟨k, c, e, q⟩ := own_any h1 hl
  refine ⟨k, c, e, ?_, fun x u hu => q x _ (by rw [List.getElem?_map, hu]; rfl)⟩
  obtain ⟨_, h2⟩ := h1
  rcases h2 with ⟨_, h3⟩ | ⟨g, cap, cur, e2, _, _, h3, _⟩
  · omega
  · rw [e] at e2
    injection e2 with _ _ e3
    omega
end Go.Proofs.YtmacmoikjgmaoaaDoor.Bo
