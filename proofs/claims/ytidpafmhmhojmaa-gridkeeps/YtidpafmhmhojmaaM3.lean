/- for GridKeeps: four lists, and those that are kept. -/
import Derived.Test.YtidpafmhmhojmaaM2
namespace Go.Proofs.Ytidpafmhmhojmaa
open Go Go.RowKit Go.Maps

theorem Sep.only {w0 W : World} {a : As} {l : List As} (h : Sep w0 W (a :: l)) : Sep w0 W [a] := Sep.dropM (l := []) [a] l (by simpa using h)
/-- a list that was taken, and the longer one -/
structure Pk where
  va : Value
  vo : Value
  n : Nat
def rdsV : List Pk → Nat → List As
  | [], _ => []
  | p :: r, t => prV p.va p.vo p.n t :: rdsV r (t + 1)
theorem rdsV_app : ∀ (P : List Pk) (p : Pk) (t : Nat), rdsV (P ++ [p]) t = rdsV P t ++ [prV p.va p.vo p.n (t + P.length)]
  | [], p, t => rfl
  | q :: r, p, t => by
    rw [List.cons_append, rdsV, rdsV_app r p (t + 1), rdsV, List.length_cons, List.cons_append, show t + 1 + r.length = t + (r.length + 1) by omega]
theorem rdsV_mem : ∀ (P : List Pk) (t i : Nat) (p : Pk), P[i]? = some p → prV p.va p.vo p.n (t + i) ∈ rdsV P t
  | [], _, _, _, h => by simp at h
  | q :: r, t, 0, p, h => by
    simp only [List.getElem?_cons_zero, Option.some.injEq] at h
    subst h
    exact List.mem_cons_self ..
  | q :: r, t, i + 1, p, h => by
    have := rdsV_mem r (t + 1) i p (by simpa using h)
    rw [show t + 1 + i = t + (i + 1) by omega] at this
    exact List.mem_cons_of_mem _ this
theorem erase_perm {α : Type} : ∀ (l : List α) (k : Nat) (h : k < l.length), (l[k] :: l.eraseIdx k).Perm l
  | a :: l, 0, _ => List.Perm.refl _
  | a :: l, k + 1, h => by
    have h' : k < l.length := by simpa using h
    exact (List.Perm.swap _ _ _).trans ((erase_perm l k h').cons a)
abbrev nmA (p : Value × List Int) : As := nums p.1 p.2
theorem Sep.lsAt {w0 W : World} {V : List (Value × List Int)} {l : List As} {k : Nat} {p : Value × List Int} (hp : V[k]? = some p) (h : Sep w0 W (V.map nmA ++ l)) : Sep w0 W (nums p.1 p.2 :: ((V.eraseIdx k).map nmA ++ l)) := by
  obtain ⟨hk, rfl⟩ := List.getElem?_eq_some_iff.1 hp
  refine h.perm ?_
  have q := ((erase_perm V k hk).map nmA).symm
  exact q.append_right l
theorem Sep.lsPut {w0 W : World} {V : List (Value × List Int)} {l : List As} {k : Nat} {p : Value × List Int} (hp : V[k]? = some p) (L : List Int) (h : Sep w0 W (nums p.1 L :: ((V.eraseIdx k).map nmA ++ l))) : Sep w0 W ((V.set k (p.1, L)).map nmA ++ l) := by
  obtain ⟨hk, rfl⟩ := List.getElem?_eq_some_iff.1 hp
  refine h.perm ?_
  have hk' : k < (V.set k (V[k].1, L)).length := by rw [List.length_set]; exact hk
  have q := (erase_perm _ k hk').map nmA
  rw [List.getElem_set_self, List.eraseIdx_set_eq] at q
  exact q.append_right l
theorem row_cell {W : World} {e : TypeId} {g n c k : Nat} {xs : List Value} {t : Value} (h : W.ownsRow 0 e 1 (sl g n c) n xs) (hn : 0 < n) (hk : xs[k]? = some t) : W.cell? ⟨g, k, none⟩ = some t ∧ W.frozen? ⟨g, k, none⟩ = false := by
  obtain ⟨g', c', e, q⟩ := own_any h hn
  injection e with e1
  injection e1 with e1
  injection e1 with e1
  subst e1
  exact q k t hk
theorem row_block {w0 W : World} {l : List As} {e : TypeId} {a : Option Addr} {n c : Nat} {xs : List Value} (h : Sep w0 W l) (hm : rowV e 1 (.slice a n c) n xs ∈ l) (hn : 0 < n) : ∃ g, a = some ⟨g, 0, none⟩ := by
  obtain ⟨g, c', e, _⟩ := own_any (h.rowGet hm) hn
  injection e with e1 _ _
  exact ⟨g, e1⟩
theorem ints_n (w0 W : World) (l : List As) (va vb : Value) (L : List Int) (n : Nat) (hn : L.length = n) (hb : n < 1000000000000000000) (h : Sep w0 W l) (h1 : rowV 3 1 va n (L.map iv) ∈ l) (h2 : rowV 3 1 vb n (L.map iv) ∈ l) :
    Calls Try.prog 16 #[va, vb] W fun e W' => e = .returned (.bool true) ∧ W.grownBy W' none := by
  subst hn
  exact ints_c w0 W l va vb L hb h h1 h2
theorem info46 : (Try.prog.info? 46).map (·.size) = some 4 := by kernel_rfl
theorem built46 (a b c d : Option Addr) (n m k j n' m' k' j' : Nat) : Try.prog.built 46 [(0, .slice a n n'), (1, .slice b m m'), (2, .slice c k k'), (3, .slice d j j')] = some #[.slice a n n', .slice b m m', .slice c k k', .slice d j j'] := by kernel_rfl
theorem one46 (a b c d : Option Addr) (n m k j n' m' k' j' : Nat) : ∀ u ∈ [Value.slice a n n', .slice b m m', .slice c k k', .slice d j j'], u.oneCell' = true := by
  intro u hu
  simp only [List.mem_cons, List.not_mem_nil, or_false] at hu
  rcases hu with rfl | rfl | rfl | rfl <;> rfl
theorem sok_rem {s : Stp} (h : SOk s) : SOk ⟨Int.tmod s.op 3, s.id, s.x, s.y, 0, 0⟩ := by
  obtain ⟨q1, q2, q3, q4, _, _⟩ := h
  have h1 := Int.tmod_lt_of_pos s.op (b := 3) (by decide)
  have h2 := Int.lt_tmod_of_pos s.op (b := 3) (by decide)
  have z : I64 0 := ⟨by decide, by decide⟩
  exact ⟨⟨by show _ ≤ Int.tmod s.op 3; omega, by show Int.tmod s.op 3 ≤ _; omega⟩, q2, q3, q4, z, z⟩
theorem nrL_le (M : List Pl) (x y r : Int) : (nrL M x y r).length ≤ M.length := by unfold nrL; rw [List.length_map]; exact nr_len M x y r
theorem nstL_le (M : List Pl) (x y r n : Int) : (nstL M x y r n).length ≤ M.length := by unfold nstL nst; rw [List.length_map, List.length_take, (srtD_perm x y _).length_eq]; have := nr_len M x y r; omega
/-- the longer one is laid by -/
theorem Sep.pvLay {w0 W : World} {D R S : List As} {a b p : As} (h : Sep w0 W (a :: ((p :: D) ++ (b :: (S ++ R))))) : Sep w0 W (D ++ (a :: b :: (S ++ (R ++ [p])))) := by
  refine h.perm ?_
  have q1 : (a :: ((p :: D) ++ (b :: (S ++ R)))).Perm (p :: (a :: (D ++ (b :: (S ++ R))))) := List.Perm.swap _ _ _
  have q2 : (p :: (a :: (D ++ (b :: (S ++ R))))).Perm ((a :: (D ++ (b :: (S ++ R)))) ++ [p]) := (List.perm_append_singleton _ _).symm
  have q3 : (a :: (D ++ (b :: (S ++ R)))).Perm (D ++ (a :: b :: (S ++ R))) := List.perm_middle.symm
  have q4 : (D ++ (a :: b :: (S ++ R))) ++ [p] = D ++ (a :: b :: (S ++ (R ++ [p]))) := by simp
  rw [← q4]
  exact (q1.trans q2).trans (q3.append_right _)
end Go.Proofs.Ytidpafmhmhojmaa
