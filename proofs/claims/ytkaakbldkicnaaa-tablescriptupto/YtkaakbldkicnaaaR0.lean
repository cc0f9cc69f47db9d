/- rows of any things; several things as one. -/
import Derived.Test.YtkaakbldkicnaaaE3
namespace Go.Proofs.Ytkaakbldkicnaaa
open Go Go.RowKit Go.Maps

/-- a row of things of s cells -/
def rowV (e : TypeId) (s : Nat) (v : Value) (n : Nat) (xs : List Value) : As :=
  ⟨fun W F => W.ownsRow 0 e s v n xs ∧ F = fun i => v.ownBlock = some i,
   fun S W W' F h f hs => ⟨by
     obtain ⟨⟨h1, h2⟩, h3⟩ := h
     refine ⟨h1, h2.imp id ?_⟩
     rintro ⟨g, cap, cur, rfl, q1, q2, q3⟩
     refine ⟨g, cap, cur, rfl, q1, ?_, q3⟩
     rw [f.block g (Array.getElem?_eq_some_iff.1 q2).1 (hs g (by rw [h3]; rfl))]; exact q2, h.2⟩,
   fun W F h i hi => by
     rw [h.2] at hi
     obtain ⟨⟨h1, h2⟩, _⟩ := h
     rcases h2 with ⟨rfl, _⟩ | ⟨g, cap, cur, rfl, q1, q2, q3⟩
     · cases hi
     · injection hi with e
       rw [← e]
       exact (Array.getElem?_eq_some_iff.1 q2).1⟩
/-- several things, with what only they know -/
def exA {α : Type} (f : α → List As) : As :=
  ⟨fun W F => ∃ x, ∃ m : List Ob, m.map Prod.fst = f x ∧ (∀ p ∈ m, p.1.P W p.2) ∧ m.Pairwise Dj ∧ F = fun i => ∃ p ∈ m, p.2 i,
   fun S W W' F h fr hs => by
     obtain ⟨x, m, h1, h2, h3, rfl⟩ := h
     exact ⟨x, m, h1, fun p hp => p.1.st S W W' p.2 (h2 p hp) fr (fun i hi => hs i ⟨p, hp, hi⟩), h3, rfl⟩,
   fun W F h i hi => by
     obtain ⟨x, m, h1, h2, h3, rfl⟩ := h
     obtain ⟨p, hp, q⟩ := hi
     exact p.1.lt W p.2 (h2 p hp) i q⟩
theorem Sep.opn {α : Type} {f : α → List As} {w0 W : World} {l : List As} (h : Sep w0 W (exA f :: l)) : ∃ x, Sep w0 W (f x ++ l) := by
  obtain ⟨F, ⟨x, m, h1, h2, h3, rfl⟩, _, hu⟩ := h.use
  exact ⟨x, hu W (f x) (Fr.refl _ _) ⟨m, h1, fun p hp => ⟨h2 p hp, fun i hi => .inl ⟨p, hp, hi⟩⟩, h3⟩⟩
theorem Sep.cls {α : Type} (f : α → List As) (x : α) {w0 W : World} {l : List As} (h : Sep w0 W (f x ++ l)) : Sep w0 W (exA f :: l) := by
  obtain ⟨m, hm, hp, hd⟩ := h.ex
  obtain ⟨m1, m2, rfl, e1, e2⟩ := List.map_eq_append_iff.1 hm
  obtain ⟨d1, d2, d3⟩ := List.pairwise_append.1 hd
  refine ⟨h.g, (exA f, fun i => ∃ p ∈ m1, p.2 i) :: m2, by rw [List.map_cons, e2], fun p hq => ?_, List.pairwise_cons.2 ⟨fun p hq i hi hj => ?_, d2⟩⟩
  · rcases List.mem_cons.1 hq with rfl | hq
    · refine ⟨⟨x, m1, e1, fun p hp1 => (hp p (List.mem_append_left _ hp1)).1, d1, rfl⟩, fun i hi => ?_⟩
      obtain ⟨p, hp1, q⟩ := hi
      exact (hp p (List.mem_append_left _ hp1)).2 i q
    · exact hp p (List.mem_append_right _ hq)
  · obtain ⟨q, hq1, hq2⟩ := hi
    exact d3 q hq1 p hq i hq2 hj
theorem own_any {lo : Nat} {W : World} {e : TypeId} {s : Nat} {v : Value} {n : Nat} {xs : List Value} (h : W.ownsRow lo e s v n xs) (hn : 0 < n) : ∃ g c, v = .slice (some ⟨g, 0, none⟩) n c ∧ ∀ (k : Nat) t, xs[k]? = some t → W.cell? ⟨g, k, none⟩ = some t ∧ W.frozen? ⟨g, k, none⟩ = false := by
  obtain ⟨h1, h2⟩ := h
  rcases h2 with ⟨_, h0⟩ | ⟨g, cap, cur, rfl, hb, hheap, h3, h4, h5, h6⟩
  · omega
  · refine ⟨g, cap, rfl, fun k t ht => ?_⟩
    have hk : k < xs.length := (List.getElem?_eq_some_iff.1 ht).1
    rw [← h6, List.getElem?_take, if_pos (by omega)] at ht
    constructor
    · simp only [World.cell?, hheap]
      simpa using ht
    · simp [World.frozen?, hheap]
theorem Sep.rowGet {w0 W : World} {l : List As} {e : TypeId} {s : Nat} {v : Value} {n : Nat} {xs : List Value} (h : Sep w0 W l) (hm : rowV e s v n xs ∈ l) : W.ownsRow 0 e s v n xs := by
  obtain ⟨F, q, _⟩ := h.get hm
  exact q
theorem own_zero {lo : Nat} {W : World} {e : TypeId} {s : Nat} {v : Value} {xs : List Value} (h : W.ownsRow lo e s v 0 xs) : ∃ a c, v = .slice a 0 c := by
  obtain ⟨h1, h2⟩ := h
  rcases h2 with ⟨rfl, _⟩ | ⟨g, cap, cur, rfl, _⟩
  · exact ⟨_, _, rfl⟩
  · exact ⟨_, _, rfl⟩
/-- an empty row of none -/
theorem Sep.nilV {w0 W : World} {l : List As} (h : Sep w0 W l) (e : TypeId) (s : Nat) : Sep w0 W (rowV e s (.slice none 0 0) 0 [] :: l) :=
  h.new (World.grownBy.refl _ _) (Loc.one (a := rowV _ _ _ _ _) _ ⟨⟨by simp, .inl ⟨rfl, rfl⟩⟩, rfl⟩ (fun _ hi => by cases hi))
/-- one thing more -/
theorem Sep.app {w0 W : World} {l : List As} {t e : TypeId} {i : TypeInfo} {z : Value} {s bytes : Nat} (ht : Try.prog.underlying t = some (.slice e)) (hi : Try.prog.info? e = some i) (hz : i.zero = some z) (hs : i.size = s) (hby : i.bytes = bytes) (hzs : z.cells.size = s) (hs0 : 0 < s)
    {v : Value} {n : Nat} {xs : List Value} (h : Sep w0 W (rowV e s v n xs :: l)) (cs : List Value) (hcs : cs.length = s) (h1 : ∀ u ∈ cs, u.oneCell' = true) (hsz : (n + 1) * bytes ≤ 140737488355328) (hb0 : 0 < bytes) :
    ∃ g c W', (Builtin.append_ #[t, t] t #[v, .slice (some ⟨W.heap.size, 0, none⟩) 1 1]).run Try.prog (W.alloc (.cells cs.toArray e)) = .ok (.slice (some ⟨g, 0, none⟩) (n + 1) c) W' ∧ Sep w0 W' (rowV e s (.slice (some ⟨g, 0, none⟩) (n + 1) c) (n + 1) (xs ++ cs) :: l) := by
  obtain ⟨F, ⟨ho, rfl⟩, _, hu⟩ := h.use
  have hle : n + 1 ≤ 140737488355328 := Nat.le_trans (Nat.le_mul_of_pos_right _ hb0) hsz
  have hk := ho.kept (World.grownBy_alloc W (.cells cs.toArray e) none) (by cases v.ownBlock <;> simp)
  obtain ⟨v', w', r1, r2, r3, _, r5⟩ := run_append_own_at (P := Try.prog) (W.alloc (.cells cs.toArray e)) 0 t t e i z s bytes ht hi hz hs hby hzs hs0 v n xs hk ⟨W.heap.size, 0, none⟩ 1 1 cs (by omega) (fun j u hu => by
      rw [Addr.add_mid, Nat.zero_add]; exact (Has.newA W cs.toArray e).cellv j u (by simpa using hu)) h1 (by unfold maxLen; omega) hsz (Nat.zero_le _)
  obtain ⟨g, c, e1, _⟩ := own_any r2 (by omega)
  subst e1
  rw [heap1] at r5
  have gr := (World.grownBy_alloc W (.cells cs.toArray e) v.ownBlock).trans r3
  refine ⟨g, c, w', r1, hu w' [_] ((Fr.of gr).mono (fun i hi => .inl hi)) (Loc.one (a := rowV _ _ _ _ _) _ ⟨r2, rfl⟩ (fun i hi => ?_))⟩
  rcases r5 with q | q
  · exact .inl (by rw [← q]; exact hi)
  · rw [q] at hi
    injection hi with e
    exact .inr (by omega)
theorem own_set {lo : Nat} {W : World} {e : TypeId} {s g n c : Nat} {xs : List Value} (h : W.ownsRow lo e s (.slice (some ⟨g, 0, none⟩) n c) n xs) (k : Nat) (x : Value) : (W.setCell ⟨g, k, none⟩ x).ownsRow lo e s (.slice (some ⟨g, 0, none⟩) n c) n (xs.set k x) := by
  obtain ⟨h1, h2⟩ := h
  refine ⟨by rw [List.length_set]; exact h1, ?_⟩
  rcases h2 with ⟨h2, _⟩ | ⟨g', cap, cur, hv, hb, hheap, h3, h4, h5, h6⟩
  · cases h2
  · injection hv with e1 e2 e3
    cases e1
    refine .inr ⟨g, c, cur.setIfInBounds k x, rfl, hb, ?_, by omega, by omega, by rw [Array.size_setIfInBounds]; rw [h5, e3], ?_⟩
    · simp [World.setCell, Array.getElem?_modify, hheap]
    · rw [Array.toList_setIfInBounds, List.take_set, h6]
theorem Sep.rowSet {w0 W : World} {l : List As} {e : TypeId} {s g n c : Nat} {xs : List Value} (h : Sep w0 W (rowV e s (.slice (some ⟨g, 0, none⟩) n c) n xs :: l)) (k : Nat) (x : Value) : Sep w0 (W.setCell ⟨g, k, none⟩ x) (rowV e s (.slice (some ⟨g, 0, none⟩) n c) n (xs.set k x) :: l) := by
  obtain ⟨F, ⟨h1, rfl⟩, _, hu⟩ := h.use
  exact hu _ [_] (fr_set _ _ _ _ _ rfl) (Loc.one (a := rowV _ _ _ _ _) _ ⟨own_set h1 k x, rfl⟩ (fun i hi => .inl hi))
theorem Sep.boxPut {w0 W : World} {l : List As} {b : Nat} {cs : List Value} {t : TypeId} (h : Sep w0 W (boxA b cs t :: l)) (j : Nat) (v : Value) : Sep w0 (W.setCell ⟨b, j, none⟩ v) (boxA b (cs.set j v) t :: l) := by
  obtain ⟨F, ⟨h1, rfl⟩, _, hu⟩ := h.use
  exact hu _ [_] (fr_set _ _ _ _ _ rfl) (Loc.one (a := boxA _ _ _) _ ⟨h1.setCell j v, rfl⟩ (fun i hi => .inl hi))
theorem Sep.newBox {w0 W : World} {l : List As} (h : Sep w0 W l) (cs : Array Value) (t : TypeId) : Sep w0 (W.alloc (.cells cs t)) (boxA W.heap.size cs.toList t :: l) :=
  h.new (World.grownBy_alloc _ _ _) (Loc.one (a := boxA _ _ _) _ ⟨Has.newA W cs t, rfl⟩ (fun i hi => .inr (by rw [hi]; exact Nat.le_refl _)))
theorem fr1 {w0 W : World} (A : List As) {a : As} {B : List As} (h : Sep w0 W (A ++ a :: B)) : Sep w0 W (a :: (A ++ B)) := h.perm List.perm_middle
theorem bk1 {w0 W : World} (A : List As) {a : As} {B : List As} (h : Sep w0 W (a :: (A ++ B))) : Sep w0 W (A ++ a :: B) := h.perm List.perm_middle.symm
end Go.Proofs.Ytkaakbldkicnaaa
