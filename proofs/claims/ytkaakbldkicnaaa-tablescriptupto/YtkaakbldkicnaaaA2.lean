/- table: remove, renew. -/
import Derived.Test.YtkaakbldkicnaaaA1
import Derived.RegionTactic
namespace Go.Proofs.Ytkaakbldkicnaaa
open Go Go.RowKit

/-- what lies about an entry -/
structure Apart (tb : Nat) (A C : List Ent) (e : Ent) : Prop where
  te : tb ≠ e.b
  tA : ∀ i ∈ A.map Ent.b, i ≠ tb ∧ i ≠ e.b
  tC : ∀ i ∈ C.map Ent.b, i ≠ tb ∧ i ≠ e.b
  AC : ∀ i ∈ A.map Ent.b, i ∉ C.map Ent.b
  nA : (A.map Ent.b).Nodup
  nC : (C.map Ent.b).Nodup
theorem Apart.of {tb : Nat} {A C : List Ent} {e : Ent} (hn : (tb :: (A ++ e :: C).map Ent.b).Nodup) : Apart tb A C e := by
  obtain ⟨h1, h2⟩ := List.nodup_cons.1 hn
  rw [List.map_append, List.map_cons] at h1 h2
  obtain ⟨h3, h4, h5⟩ := List.nodup_append.1 h2
  obtain ⟨h6, h7⟩ := List.nodup_cons.1 h4
  refine ⟨fun q => h1 (by simp [q]), fun i hi => ⟨fun q => h1 (by rw [← q]; simp only [List.mem_append]; exact .inl hi), h5 i hi e.b (by simp)⟩, fun i hi => ⟨fun q => h1 (by rw [← q]; simp only [List.mem_append, List.mem_cons]; exact .inr (.inr hi)), fun q => h6 (q ▸ hi)⟩, fun i hi hc => h5 i hi i (by simp only [List.mem_cons]; exact .inr hc) rfl, h3, h7⟩

abbrev RemPost (tb : Nat) (c0 c1 : Value) (A C : List Ent) (e : Ent) (w w' : World) : Prop :=
  Has w' tb (tcs c0 c1 (A ++ C)) 69 ∧ Seg w' np (A ++ C) np ∧ Has w' e.b (ent e (lst np A) (hd np C)) 72 ∧ Fr (fun i => i = tb ∨ i ∈ (A ++ C).map Ent.b) w w' ∧ w'.heap.size = w.heap.size

/-- alone -/
theorem rem_0 (w : World) (tb : Nat) (c0 c1 : Value) (e : Ent) (ht : Has w tb (tcs c0 c1 [e]) 69) (hs : Seg w np [e] np) (ha : Apart tb [] [] e) :
    Calls Try.prog 39 #[.pointer (some ⟨tb, 2, none⟩), pt e.b] w fun r w' => r = .returned (.tuple #[]) ∧ RemPost tb c0 c1 [] [] e w w' := by
  have n1 := ha.te
  have n1' : e.b ≠ tb := fun q => n1 q.symm
  obtain ⟨_, _, t2, t3, _, g2, g3⟩ := Has.c4 (v0 := c0) (v1 := c1) (v2 := pt e.b) (v3 := pt e.b) ht
  obtain ⟨_, _, e2, e3, _, f2, f3⟩ := Has.c4 (v0 := .string e.k) (v1 := iv e.x) (v2 := np) (v3 := np) hs.1
  have HH : Keep (Has w tb (tcs c0 c1 [e]) 69 ∧ Has w e.b (ent e np np) 72) := ⟨ht, hs.1⟩
  clear ht hs ha
  generalize he : e.b = eb at *
  go_enter Try.func39, Try.ntmps39
  go_wp2_with fail
  go_end0
  obtain ⟨ht, he'⟩ := HH.out
  subst he
  refine ⟨rfl, (ht.setCell 2 np).setCell 3 np, trivial, (he'.other ⟨tb, 2, none⟩ np n1).other ⟨tb, 3, none⟩ np n1, (fr_set _ _ _ _ _ (.inl rfl)).trans (fr_set _ _ _ _ _ (.inl rfl)), by simp only [set_size]⟩
/-- the first of some -/
theorem rem_1 (w : World) (tb : Nat) (c0 c1 : Value) (e c : Ent) (C : List Ent) (ht : Has w tb (tcs c0 c1 (e :: c :: C)) 69) (hs : Seg w np (e :: c :: C) np) (ha : Apart tb [] (c :: C) e) :
    Calls Try.prog 39 #[.pointer (some ⟨tb, 2, none⟩), pt e.b] w fun r w' => r = .returned (.tuple #[]) ∧ RemPost tb c0 c1 [] (c :: C) e w w' := by
  have n1 := ha.te
  have n1' : e.b ≠ tb := fun q => n1 q.symm
  obtain ⟨n2, n3⟩ := ha.tC c.b (by simp)
  have n2' : tb ≠ c.b := fun q => n2 q.symm
  have n3' : e.b ≠ c.b := fun q => n3 q.symm
  obtain ⟨s1, s2, s3⟩ := hs
  have ht' : Has w tb [c0, c1, pt e.b, lst np (c :: C)] 69 := ht
  have HA : Keep (∀ i ∈ C.map Ent.b, i ≠ c.b ∧ i ≠ tb) := ⟨fun i hi => ⟨fun q => (List.nodup_cons.1 ha.nC).1 (q ▸ hi), (ha.tC i (by simp only [List.map_cons, List.mem_cons]; exact .inr hi)).1⟩⟩
  have HH : Keep (Has w tb [c0, c1, pt e.b, lst np (c :: C)] 69 ∧ Has w e.b (ent e np (pt c.b)) 72 ∧ Has w c.b (ent c (pt e.b) (hd np C)) 72 ∧ Seg w (pt c.b) C np) := ⟨ht', s1, s2, s3⟩
  obtain ⟨_, _, t2, t3, _, g2, g3⟩ := ht'.c4
  obtain ⟨_, _, e2, e3, _, f2, f3⟩ := Has.c4 (v0 := .string e.k) (v1 := iv e.x) (v2 := np) (v3 := pt c.b) s1
  obtain ⟨_, _, k2, k3, _, l2, l3⟩ := Has.c4 s2
  clear ht ht' s1 s2 s3 ha
  generalize lst np (c :: C) = h0 at t3
  generalize hd np C = l0 at k3
  generalize he : e.b = eb at *
  generalize hc : c.b = cb at *
  go_enter Try.func39, Try.ntmps39
  go_wp2_with fail
  go_region
  go_end0
  obtain ⟨ht, he', hc', hs⟩ := HH.out
  subst he hc
  have F : Fr (fun i => i = tb ∨ i = c.b) w _ := ((fr_set w _ tb 2 (pt c.b) (.inl rfl)).trans (fr_set _ _ c.b 2 np (.inr rfl))).trans (Fr.ofNone (gr_drew _ _))
  refine ⟨rfl, (ht.setCell 2 (pt c.b)).other ⟨c.b, 2, none⟩ np n2, ⟨(hc'.other ⟨tb, 2, none⟩ (pt c.b) n2').setCell 2 np, hs.fr F (fun i hi => ?_)⟩, (he'.other ⟨tb, 2, none⟩ (pt c.b) n1).other ⟨c.b, 2, none⟩ np n3, F.mono (fun i hi => ?_), ?_⟩
  · obtain ⟨q1, q2⟩ := HA.out i hi
    rintro (h | h)
    · exact q2 h
    · exact q1 h
  · rcases hi with h | h
    · exact .inl (.inl h)
    · exact .inl (.inr (by simp [h]))
  · show (World.setCell _ _ _).heap.size = _
    simp only [set_size]
/-- the last of some -/
theorem rem_2 (w : World) (tb : Nat) (c0 c1 : Value) (A : List Ent) (a e : Ent) (ht : Has w tb (tcs c0 c1 (A ++ [a] ++ [e])) 69) (hs : Seg w np (A ++ [a] ++ [e]) np) (ha : Apart tb (A ++ [a]) [] e) :
    Calls Try.prog 39 #[.pointer (some ⟨tb, 2, none⟩), pt e.b] w fun r w' => r = .returned (.tuple #[]) ∧ RemPost tb c0 c1 (A ++ [a]) [] e w w' := by
  have n1 := ha.te
  have n1' : e.b ≠ tb := fun q => n1 q.symm
  obtain ⟨n2, n3⟩ := ha.tA a.b (by simp)
  have n2' : tb ≠ a.b := fun q => n2 q.symm
  have n3' : e.b ≠ a.b := fun q => n3 q.symm
  obtain ⟨s0, s1, _⟩ := (seg_app ..).1 hs
  obtain ⟨s2, s3, _⟩ := (seg_app ..).1 s0
  rw [lst_one] at s1
  have ht' : Has w tb [c0, c1, hd (pt a.b) A, pt e.b] 69 := by
    rw [tcs, lst_one, hd_app, hd_app] at ht; exact ht
  have HA : Keep (∀ i ∈ A.map Ent.b, i ≠ a.b ∧ i ≠ tb) := by
    refine ⟨fun i hi => ⟨?_, (ha.tA i (by simp only [List.map_append, List.mem_append]; exact .inl hi)).1⟩⟩
    have := ha.nA
    rw [List.map_append] at this
    exact (List.nodup_append.1 this).2.2 i hi a.b (by simp)
  have HH : Keep (Has w tb [c0, c1, hd (pt a.b) A, pt e.b] 69 ∧ Has w e.b (ent e (pt a.b) np) 72 ∧ Has w a.b (ent a (lst np A) (pt e.b)) 72 ∧ Seg w np A (pt a.b)) := ⟨ht', s1, s3, s2⟩
  obtain ⟨_, _, t2, t3, _, g2, g3⟩ := ht'.c4
  obtain ⟨_, _, e2, e3, _, f2, f3⟩ := Has.c4 (v0 := .string e.k) (v1 := iv e.x) (v2 := pt a.b) (v3 := np) s1
  obtain ⟨_, _, k2, k3, _, l2, l3⟩ := Has.c4 (v0 := .string a.k) (v1 := iv a.x) (v2 := lst np A) (v3 := pt e.b) s3
  clear ht ht' s0 s1 s2 s3 ha
  generalize hd (pt a.b) A = h0 at t2
  generalize lst np A = l0 at k2
  generalize he : e.b = eb at *
  generalize hc : a.b = ab at *
  go_enter Try.func39, Try.ntmps39
  go_wp2_with fail
  go_region
  go_wp2_with fail
  go_end0
  obtain ⟨ht, he', ha', hs⟩ := HH.out
  subst he hc
  have F : Fr (fun i => i = tb ∨ i = a.b) w _ := ((fr_set w _ a.b 3 np (.inr rfl)).trans (Fr.ofNone (gr_drew _ _))).trans (fr_set _ _ tb 3 (pt a.b) (.inl rfl))
  refine ⟨rfl, ?_, ?_, ?_, F.mono (fun i hi => ?_), ?_⟩
  · rw [List.append_nil, tcs, lst_one, hd_app]
    exact (ht.other ⟨a.b, 3, none⟩ np n2).setCell 3 (pt a.b)
  · rw [List.append_nil, seg_app]
    refine ⟨hs.fr F (fun i hi => ?_), (ha'.setCell 3 np).other ⟨tb, 3, none⟩ (pt a.b) n2', trivial⟩
    obtain ⟨q1, q2⟩ := HA.out i hi
    rintro (h | h)
    · exact q2 h
    · exact q1 h
  · rw [lst_one]
    exact (he'.other ⟨a.b, 3, none⟩ np n3).other ⟨tb, 3, none⟩ (pt a.b) n1
  · rcases hi with h | h
    · exact .inl (.inl h)
    · exact .inl (.inr (by simp [h]))
  · simp [World.setCell, World.drew]
/-- in the midst -/
theorem rem_3 (w : World) (tb : Nat) (c0 c1 : Value) (A : List Ent) (a e c : Ent) (C : List Ent) (ht : Has w tb (tcs c0 c1 (A ++ [a] ++ e :: c :: C)) 69) (hs : Seg w np (A ++ [a] ++ e :: c :: C) np) (ha : Apart tb (A ++ [a]) (c :: C) e) :
    Calls Try.prog 39 #[.pointer (some ⟨tb, 2, none⟩), pt e.b] w fun r w' => r = .returned (.tuple #[]) ∧ RemPost tb c0 c1 (A ++ [a]) (c :: C) e w w' := by
  have n1 := ha.te
  have n1' : e.b ≠ tb := fun q => n1 q.symm
  obtain ⟨n2, n3⟩ := ha.tA a.b (by simp)
  obtain ⟨m2, m3⟩ := ha.tC c.b (by simp)
  have n2' : tb ≠ a.b := fun q => n2 q.symm
  have n3' : e.b ≠ a.b := fun q => n3 q.symm
  have m2' : tb ≠ c.b := fun q => m2 q.symm
  have m3' : e.b ≠ c.b := fun q => m3 q.symm
  have m1 : a.b ≠ c.b := fun q => ha.AC a.b (by simp) (by simp [q])
  have m1' : c.b ≠ a.b := fun q => m1 q.symm
  obtain ⟨s0, s1, s4, s5⟩ := (seg_app ..).1 hs
  obtain ⟨s2, s3, _⟩ := (seg_app ..).1 s0
  rw [lst_one] at s1
  have ht' : Has w tb [c0, c1, hd (pt a.b) A, lst np (c :: C)] 69 := by
    rw [tcs, hd_app, hd_app, lst_app] at ht; exact ht
  have HA : Keep ((∀ i ∈ A.map Ent.b, i ≠ a.b ∧ i ≠ tb ∧ i ≠ c.b) ∧ ∀ i ∈ C.map Ent.b, i ≠ c.b ∧ i ≠ tb ∧ i ≠ a.b) := by
    refine ⟨fun i hi => ⟨?_, (ha.tA i (by simp only [List.map_append, List.mem_append]; exact .inl hi)).1, fun q => ha.AC i (by simp only [List.map_append, List.mem_append]; exact .inl hi) (by simp [q])⟩, fun i hi => ⟨fun q => (List.nodup_cons.1 ha.nC).1 (q ▸ hi), (ha.tC i (by simp only [List.map_cons, List.mem_cons]; exact .inr hi)).1, fun q => ha.AC a.b (by simp) (by rw [← q]; simp only [List.map_cons, List.mem_cons]; exact .inr hi)⟩⟩
    have := ha.nA
    rw [List.map_append] at this
    exact (List.nodup_append.1 this).2.2 i hi a.b (by simp)
  have HH : Keep (Has w tb [c0, c1, hd (pt a.b) A, lst np (c :: C)] 69 ∧ Has w e.b (ent e (pt a.b) (pt c.b)) 72 ∧ Has w a.b (ent a (lst np A) (pt e.b)) 72 ∧ Seg w np A (pt a.b) ∧ Has w c.b (ent c (pt e.b) (hd np C)) 72 ∧ Seg w (pt c.b) C np) := ⟨ht', s1, s3, s2, s4, s5⟩
  obtain ⟨_, _, t2, t3, _, g2, g3⟩ := ht'.c4
  obtain ⟨_, _, e2, e3, _, f2, f3⟩ := Has.c4 (v0 := .string e.k) (v1 := iv e.x) (v2 := pt a.b) (v3 := pt c.b) s1
  obtain ⟨_, _, k2, k3, _, l2, l3⟩ := Has.c4 (v0 := .string a.k) (v1 := iv a.x) (v2 := lst np A) (v3 := pt e.b) s3
  obtain ⟨_, _, i2, i3, _, j2, j3⟩ := Has.c4 (v0 := .string c.k) (v1 := iv c.x) (v2 := pt e.b) (v3 := hd np C) s4
  clear ht ht' s0 s1 s2 s3 s4 s5 ha hs
  generalize hd (pt a.b) A = h0 at t2
  generalize lst np (c :: C) = h1 at t3
  generalize lst np A = l0 at k2
  generalize hd np C = l1 at i3
  generalize he : e.b = eb at *
  generalize hc : a.b = ab at *
  generalize hd : c.b = cb at *
  go_enter Try.func39, Try.ntmps39
  go_wp2_with fail
  go_region
  go_wp2_with fail
  go_region
  go_end0
  obtain ⟨ht, he', ha', hs, hc', hs'⟩ := HH.out
  subst he hc hd
  have F : Fr (fun i => i = tb ∨ i = a.b ∨ i = c.b) w _ := (((fr_set w _ a.b 3 (pt c.b) (.inr (.inl rfl))).trans (Fr.ofNone (gr_drew _ _))).trans (fr_set _ _ c.b 2 (pt a.b) (.inr (.inr rfl)))).trans (Fr.ofNone (gr_drew _ _))
  refine ⟨rfl, ?_, ?_, ?_, F.mono (fun i hi => ?_), ?_⟩
  · rw [tcs, hd_app, hd_app, lst_app]
    exact (ht.other ⟨a.b, 3, none⟩ (pt c.b) n2).other ⟨c.b, 2, none⟩ (pt a.b) m2
  · rw [seg_app, seg_app, lst_one]
    refine ⟨⟨hs.fr F (fun i hi => ?_), (ha'.setCell 3 (pt c.b)).other ⟨c.b, 2, none⟩ (pt a.b) m1', trivial⟩, (hc'.other ⟨a.b, 3, none⟩ (pt c.b) m1).setCell 2 (pt a.b), hs'.fr F (fun i hi => ?_)⟩
    · obtain ⟨q1, q2, q3⟩ := HA.out.1 i hi
      rintro (h | h | h)
      · exact q2 h
      · exact q1 h
      · exact q3 h
    · obtain ⟨q1, q2, q3⟩ := HA.out.2 i hi
      rintro (h | h | h)
      · exact q2 h
      · exact q3 h
      · exact q1 h
  · rw [lst_one]
    exact (he'.other ⟨a.b, 3, none⟩ (pt c.b) n3).other ⟨c.b, 2, none⟩ (pt a.b) m3
  · rcases hi with h | h | h
    · exact .inl (.inl h)
    · exact .inl (.inr (by simp [h]))
    · exact .inl (.inr (by simp [h]))
  · simp [World.setCell, World.drew]
theorem rem_c (w : World) (tb : Nat) (c0 c1 : Value) (A C : List Ent) (e : Ent) (ht : Has w tb (tcs c0 c1 (A ++ e :: C)) 69) (hs : Seg w np (A ++ e :: C) np) (ha : Apart tb A C e) :
    Calls Try.prog 39 #[.pointer (some ⟨tb, 2, none⟩), pt e.b] w fun r w' => r = .returned (.tuple #[]) ∧ RemPost tb c0 c1 A C e w w' := by
  rcases List.eq_nil_or_concat A with rfl | ⟨A, a, rfl⟩ <;> cases C with
  | nil => first | exact rem_0 w tb c0 c1 e ht hs ha | (rw [List.concat_eq_append] at *; exact rem_2 w tb c0 c1 A a e ht hs ha)
  | cons c C => first | exact rem_1 w tb c0 c1 e c C ht hs ha | (rw [List.concat_eq_append] at *; exact rem_3 w tb c0 c1 A a e c C ht hs ha)
/-- renew: the entry is the last -/
theorem ren_c (w : World) (tb : Nat) (c0 c1 : Value) (A C : List Ent) (e : Ent) (ht : Has w tb (tcs c0 c1 (A ++ e :: C)) 69) (hs : Seg w np (A ++ e :: C) np) (ha : Apart tb A C e) :
    Calls Try.prog 33 #[.pointer (some ⟨tb, 2, none⟩), pt e.b] w fun r w' => r = .returned (.tuple #[]) ∧ Has w' tb (tcs c0 c1 (A ++ C ++ [e])) 69 ∧ Seg w' np (A ++ C ++ [e]) np ∧ Fr (fun i => i = tb ∨ i ∈ (A ++ C ++ [e]).map Ent.b) w w' ∧ w'.heap.size = w.heap.size := by
  have hn : (tb :: (A ++ C ++ [e]).map Ent.b).Nodup := by
    refine List.nodup_cons.2 ⟨fun q => ?_, ?_⟩
    · simp only [List.map_append, List.mem_append, List.map_cons, List.map_nil, List.mem_singleton] at q
      rcases q with (q | q) | q
      · exact (ha.tA _ q).1 rfl
      · exact (ha.tC _ q).1 rfl
      · exact ha.te q
    · rw [List.map_append, List.map_append]
      refine List.nodup_append.2 ⟨List.nodup_append.2 ⟨ha.nA, ha.nC, fun a h1 b h2 e => ha.AC a h1 (e ▸ h2)⟩, by simp, fun a h1 b h2 q => ?_⟩
      simp only [List.map_cons, List.map_nil, List.mem_singleton] at h2
      subst h2
      rcases List.mem_append.1 h1 with h1 | h1
      · exact (ha.tA _ h1).2 q
      · exact (ha.tC _ h1).2 q
  have h1 := rem_c w tb c0 c1 A C e ht hs ha
  go_enter Try.func33, Try.ntmps33
  go_wp2_with fail
  refine h1.mono ?_
  rintro r w1 ⟨rfl, r1, r2, r3, r4, r5⟩
  have HF : Keep (Fr (fun i => i = tb ∨ i ∈ (A ++ C).map Ent.b) w w1 ∧ w1.heap.size = w.heap.size) := ⟨r4, r5⟩
  have h2 := add_c w1 tb c0 c1 _ _ (A ++ C) e r1 r2 r3 hn
  clear h1 r1 r2 r3 r4 r5 ha hn
  go_wp2_with fail
  refine h2.mono ?_
  rintro r w2 ⟨rfl, r1, r2, r4, r5⟩
  have HF2 : Keep (Has w2 tb (tcs c0 c1 (A ++ C ++ [e])) 69 ∧ Seg w2 np (A ++ C ++ [e]) np ∧ Fr (fun i => i = tb ∨ i ∈ (A ++ C ++ [e]).map Ent.b) w w2 ∧ w2.heap.size = w.heap.size) :=
    ⟨r1, r2, (HF.out.1.mono (fun i hi => .inl (hi.imp id (fun q => by rw [List.map_append]; exact List.mem_append_left _ q)))).trans r4, by rw [r5, HF.out.2]⟩
  clear h2 r1 r2 r4 r5
  go_wp2_with fail
  go_end0
  exact ⟨rfl, HF2.out⟩
end Go.Proofs.Ytkaakbldkicnaaa
