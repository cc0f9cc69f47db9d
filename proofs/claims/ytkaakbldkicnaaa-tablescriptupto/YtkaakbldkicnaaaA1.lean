/- table: entries in a row; add, remove, renew. -/
import Derived.Test.YtkaakbldkicnaaaBase
import Derived.Test.YtkaakbldkicnaaaP0
namespace Go.Proofs.Ytkaakbldkicnaaa
open Go Go.RowKit

structure Ent where
  b : Nat
  k : ByteArray
  x : Int
abbrev pt (b : Nat) : Value := .pointer (some ⟨b, 0, none⟩)
abbrev np : Value := .pointer none
def hd (n : Value) : List Ent → Value
  | [] => n
  | e :: _ => pt e.b
def lst (p : Value) : List Ent → Value
  | [] => p
  | e :: r => lst (pt e.b) r
abbrev ent (e : Ent) (p n : Value) : List Value := [.string e.k, iv e.x, p, n]
/-- entries in a row -/
def Seg (w : World) : Value → List Ent → Value → Prop
  | _, [], _ => True
  | p, e :: r, n => Has w e.b (ent e p (hd n r)) 72 ∧ Seg w (pt e.b) r n
theorem hd_app (n : Value) (A B : List Ent) : hd n (A ++ B) = hd (hd n B) A := by cases A <;> rfl
theorem lst_app (p : Value) (A B : List Ent) : lst p (A ++ B) = lst (lst p A) B := by
  induction A generalizing p with
  | nil => rfl
  | cons e r ih => exact ih _
theorem lst_one (p : Value) (A : List Ent) (e : Ent) : lst p (A ++ [e]) = pt e.b := by rw [lst_app]; rfl
theorem seg_app (w : World) (p : Value) (A B : List Ent) (n : Value) : Seg w p (A ++ B) n ↔ Seg w p A (hd n B) ∧ Seg w (lst p A) B n := by
  induction A generalizing p with
  | nil => simp [Seg, lst]
  | cons e r ih => simp only [List.cons_append, Seg, ih, lst, hd_app, and_assoc]
theorem Seg.fr {S : Nat → Prop} {w w' : World} {E : List Ent} {p n : Value} (h : Seg w p E n) (f : Fr S w w') (hs : ∀ i ∈ E.map Ent.b, ¬ S i) : Seg w' p E n := by
  induction E generalizing p with
  | nil => trivial
  | cons e r ih => exact ⟨h.1.fr f (hs _ (by simp)), ih h.2 (fun i hi => hs i (by simp [hi]))⟩
theorem Seg.lt {w : World} {E : List Ent} {p n : Value} (h : Seg w p E n) : ∀ i ∈ E.map Ent.b, i < w.heap.size := by
  induction E generalizing p with
  | nil => intro i hi; cases hi
  | cons e r ih =>
    intro i hi
    rcases List.mem_cons.1 hi with rfl | hi
    · exact h.1.lt
    · exact ih h.2 i hi
abbrev tcs (c0 c1 : Value) (E : List Ent) : List Value := [c0, c1, hd np E, lst np E]

theorem fr_set (w : World) (S : Nat → Prop) (b j : Nat) (v : Value) (h : S b) : Fr S w (w.setCell ⟨b, j, none⟩ v) := Fr.ofSome (gr_set w b j v) h
theorem set_size (w : World) (a : Addr) (v : Value) : (w.setCell a v).heap.size = w.heap.size := by simp [World.setCell]

theorem Has.c4 {w : World} {b : Nat} {v0 v1 v2 v3 : Value} {t : TypeId} (h : Has w b [v0, v1, v2, v3] t) :
    w.cell? ⟨b, 0, none⟩ = some v0 ∧ w.cell? ⟨b, 1, none⟩ = some v1 ∧ w.cell? ⟨b, 2, none⟩ = some v2 ∧ w.cell? ⟨b, 3, none⟩ = some v3 ∧ w.frozen? ⟨b, 1, none⟩ = false ∧ w.frozen? ⟨b, 2, none⟩ = false ∧ w.frozen? ⟨b, 3, none⟩ = false :=
  ⟨h.cellv 0 _ rfl, h.cellv 1 _ rfl, h.cellv 2 _ rfl, h.cellv 3 _ rfl, h.frozen 1, h.frozen 2, h.frozen 3⟩

theorem add_c (w : World) (tb : Nat) (c0 c1 p n : Value) (E : List Ent) (e : Ent) (ht : Has w tb (tcs c0 c1 E) 69) (hs : Seg w np E np) (he : Has w e.b (ent e p n) 72) (hn : (tb :: (E ++ [e]).map Ent.b).Nodup) :
    Calls Try.prog 47 #[.pointer (some ⟨tb, 2, none⟩), pt e.b] w fun r w' => r = .returned (.tuple #[]) ∧ Has w' tb (tcs c0 c1 (E ++ [e])) 69 ∧ Seg w' np (E ++ [e]) np ∧ Fr (fun i => i = tb ∨ i ∈ (E ++ [e]).map Ent.b) w w' ∧ w'.heap.size = w.heap.size := by
  have n1 : tb ≠ e.b := by
    have := (List.nodup_cons.1 hn).1
    exact fun q => this (by simp [q])
  have n1' : e.b ≠ tb := fun q => n1 q.symm
  obtain ⟨_, _, e2, e3, _, f2, f3⟩ := he.c4
  rcases List.eq_nil_or_concat E with rfl | ⟨A, a, rfl⟩
  · obtain ⟨_, _, t2, t3, _, g2, g3⟩ := Has.c4 (v0 := c0) (v1 := c1) (v2 := np) (v3 := np) ht
    have HH : Keep (Has w tb (tcs c0 c1 []) 69 ∧ Has w e.b (ent e p n) 72) := ⟨ht, he⟩
    clear ht hs he hn
    generalize he : e.b = eb at *
    go_enter Try.func47, Try.ntmps47
    go_wp2_with fail
    go_end0
    obtain ⟨ht, he'⟩ := HH.out
    subst he
    have a1 := (((ht.other ⟨e.b, 2, none⟩ np n1').other ⟨e.b, 3, none⟩ np n1').setCell 2 (pt e.b)).setCell 3 (pt e.b)
    have a2 := (((he'.setCell 2 np).setCell 3 np).other ⟨tb, 2, none⟩ (pt e.b) n1).other ⟨tb, 3, none⟩ (pt e.b) n1
    refine ⟨rfl, a1, ⟨a2, trivial⟩, ?_, ?_⟩
    · exact (((fr_set _ _ _ _ _ (.inr (by simp))).trans (fr_set _ _ _ _ _ (.inr (by simp)))).trans (fr_set _ _ _ _ _ (.inl rfl))).trans (fr_set _ _ _ _ _ (.inl rfl))
    · simp only [set_size]
  · rw [List.concat_eq_append] at *
    obtain ⟨s1, s2, _⟩ := (seg_app ..).1 hs
    have hnd := List.nodup_cons.1 hn
    have hnd2 := hnd.2
    rw [List.map_append, List.map_append] at hnd2
    have hq := List.nodup_append.1 hnd2
    have hq2 := List.nodup_append.1 hq.1
    have n2 : a.b ≠ e.b := hq.2.2 a.b (by simp) e.b (by simp)
    have n2' : e.b ≠ a.b := fun q => n2 q.symm
    have n3 : tb ≠ a.b := fun q => hnd.1 (by simp [q])
    have n3' : a.b ≠ tb := fun q => n3 q.symm
    have hA : ∀ i ∈ A.map Ent.b, i ≠ a.b ∧ i ≠ e.b ∧ i ≠ tb := fun i hi => ⟨hq2.2.2 i hi a.b (by simp), hq.2.2 i (by simp only [List.mem_append]; exact .inl hi) e.b (by simp), fun q => hnd.1 (by rw [← q]; simp only [List.map_append, List.mem_append]; exact .inl (.inl hi))⟩
    have ht' : Has w tb [c0, c1, hd np (A ++ [a]), pt a.b] 69 := by rw [← lst_one np A a]; exact ht
    have s2' : Has w a.b [.string a.k, iv a.x, lst np A, np] 72 := s2
    obtain ⟨_, _, t2, t3, _, g2, g3⟩ := ht'.c4
    obtain ⟨_, _, a2, a3, _, k2, k3⟩ := s2'.c4
    have HH : Keep (Has w tb [c0, c1, hd np (A ++ [a]), pt a.b] 69 ∧ Has w e.b (ent e p n) 72 ∧ Has w a.b [.string a.k, iv a.x, lst np A, np] 72 ∧ Seg w np A (pt a.b)) := ⟨ht', he, s2', s1⟩
    have HA : Keep (∀ i ∈ A.map Ent.b, i ≠ a.b ∧ i ≠ e.b ∧ i ≠ tb) := ⟨hA⟩
    clear ht ht' hs he hn s1 s2 s2' hnd hnd2 hq hq2 hA
    generalize hd np (A ++ [a]) = h0 at t2
    generalize lst np A = l0 at a2
    generalize he : e.b = eb at *
    generalize ha : a.b = ab at *
    go_enter Try.func47, Try.ntmps47
    go_wp2_with fail
    go_end0
    obtain ⟨ht, he', ha', hs⟩ := HH.out
    subst he ha
    have a1 := (((ht.other ⟨e.b, 2, none⟩ (pt a.b) n1').other ⟨e.b, 3, none⟩ np n1').other ⟨a.b, 3, none⟩ (pt e.b) n3').setCell 3 (pt e.b)
    have a2 := (((he'.setCell 2 (pt a.b)).setCell 3 np).other ⟨a.b, 3, none⟩ (pt e.b) n2).other ⟨tb, 3, none⟩ (pt e.b) n1
    have a3 := (((ha'.other ⟨e.b, 2, none⟩ (pt a.b) n2').other ⟨e.b, 3, none⟩ np n2').setCell 3 (pt e.b)).other ⟨tb, 3, none⟩ (pt e.b) n3
    have F : Fr (fun i => i = tb ∨ i = a.b ∨ i = e.b) w _ := (((fr_set w _ e.b 2 (pt a.b) (.inr (.inr rfl))).trans (fr_set _ _ e.b 3 np (.inr (.inr rfl)))).trans (fr_set _ _ a.b 3 (pt e.b) (.inr (.inl rfl)))).trans (fr_set _ _ tb 3 (pt e.b) (.inl rfl))
    refine ⟨rfl, ?_, ?_, F.mono (fun i hi => ?_), ?_⟩
    · rw [tcs, lst_one, hd_app]
      rw [show hd np (A ++ [a]) = hd (pt a.b) A by rw [hd_app]; rfl] at a1
      rw [show hd (hd np [e]) (A ++ [a]) = hd (pt a.b) A by rw [hd_app]; rfl]
      exact a1
    · rw [List.append_assoc, seg_app]
      refine ⟨hs.fr F (fun i hi => ?_), a3, a2, trivial⟩
      obtain ⟨q1, q2, q3⟩ := HA.out i hi
      rintro (h | h | h)
      · exact q3 h
      · exact q1 h
      · exact q2 h
    · rcases hi with h | h | h
      · exact .inl (.inl h)
      · exact .inl (.inr (by simp [h]))
      · exact .inl (.inr (by simp [h]))
    · simp only [set_size]
end Go.Proofs.Ytkaakbldkicnaaa
