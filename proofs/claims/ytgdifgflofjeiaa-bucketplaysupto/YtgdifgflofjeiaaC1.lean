/- BucketPlays' state: a bucket, the reference's, and those that were laid aside. -/
import Derived.Test.YtgdifgflofjeiaaL3
namespace Go.Proofs.Ytgdifgflofjeiaa
open Go Go.RowKit

theorem left_at (b o : Nat) (h : Int) (w : World) (hc : w.cell? ⟨b, o + 2, none⟩ = some (.int .i64 h)) (h0 : 0 ≤ h) (h1 : h ≤ 16000) :
    Calls Try.prog 11 #[.pointer (some ⟨b, o, none⟩)] w fun e w' => e = .returned (.int .i64 (h / 16)) ∧ w' = w := by
  have hr : h.tdiv 16 = h / 16 := Int.tdiv_eq_ediv_of_nonneg h0
  have hw : IntKind.i64.wrap (h / 16) = h / 16 := wi _ (by omega) (by omega)
  go_enter Try.func11, Try.ntmps11
  go_wp2_with fail
  go_ret
  exact ⟨rfl, rfl⟩
theorem own_put {lo : Nat} {W : World} {e : TypeId} {s g n c : Nat} {xs : List Value} (h : W.ownsRow lo e s (.slice (some ⟨g, 0, none⟩) n c) n xs) (k : Nat) (x : Value) : (W.setCell ⟨g, k, none⟩ x).ownsRow lo e s (.slice (some ⟨g, 0, none⟩) n c) n (xs.set k x) := by
  obtain ⟨h1, h2⟩ := h
  refine ⟨by rw [List.length_set]; exact h1, ?_⟩
  rcases h2 with ⟨h2, _⟩ | ⟨g', cap, cur, hv, hb, hheap, h3, h4, h5, h6⟩
  · cases h2
  · injection hv with e1 e2 e3
    cases e1
    refine .inr ⟨g, c, cur.setIfInBounds k x, rfl, hb, ?_, by omega, by omega, by rw [Array.size_setIfInBounds]; rw [h5, e3], ?_⟩
    · simp [World.setCell, Array.getElem?_modify, hheap]
    · rw [Array.toList_setIfInBounds, List.take_set, h6]
def flat (f : Int → List Value) (L : List Int) : List Value := L.flatMap f
theorem flat_len {f : Int → List Value} (hf : ∀ y, (f y).length = 3) (L : List Int) : (flat f L).length = L.length * 3 := by
  unfold flat
  induction L with
  | nil => rfl
  | cons x L ih => rw [List.flatMap_cons, List.length_append, hf, ih, List.length_cons]; omega
theorem flat_app (f : Int → List Value) (L : List Int) (y : Int) : flat f (L ++ [y]) = flat f L ++ f y := by simp [flat]
theorem flat_split (f : Int → List Value) (L : List Int) {j : Nat} (hj : j < L.length) : flat f L = flat f (L.take j) ++ f L[j] ++ flat f (L.drop (j + 1)) := by
  have e : L = L.take j ++ L[j] :: L.drop (j + 1) := by rw [← List.drop_eq_getElem_cons hj, List.take_append_drop]
  rw [List.append_assoc]
  show List.flatMap f L = _
  rw [congrArg (List.flatMap f) e, List.flatMap_append, List.flatMap_cons]
  rfl
theorem flat_get {f : Int → List Value} (hf : ∀ y, (f y).length = 3) (L : List Int) {j : Nat} (hj : j < L.length) (i : Nat) (hi : i < 3) : (flat f L)[j * 3 + i]? = (f L[j])[i]? := by
  have hl : (flat f (L.take j)).length = j * 3 := by rw [flat_len hf, List.length_take]; congr 1; omega
  have h3 := hf L[j]
  rw [flat_split f L hj, List.append_assoc, List.getElem?_append_right (by omega), List.getElem?_append_left (by omega), hl]
  congr 1; omega
theorem flat_set {f : Int → List Value} (hf : ∀ y, (f y).length = 3) (L : List Int) {j : Nat} (hj : j < L.length) (y : Int) : over (flat f L) (j * 3) (f y) = flat f (L.set j y) := by
  have hl : (flat f (L.take j)).length = j * 3 := by rw [flat_len hf, List.length_take]; congr 1; omega
  have h3 := hf L[j]
  have h4 := hf y
  have hL := flat_len hf L
  rw [over_eq _ _ _ (by omega), h4]
  have e : L.set j y = L.take j ++ y :: L.drop (j + 1) := List.set_eq_take_append_cons_drop.trans (if_pos hj)
  have e2 : flat f (L.set j y) = flat f (L.take j) ++ f y ++ flat f (L.drop (j + 1)) := by
    rw [e, List.append_assoc]
    show List.flatMap f _ = _
    rw [List.flatMap_append, List.flatMap_cons]; rfl
  rw [e2, flat_split f L hj]
  congr 1
  · congr 1
    rw [List.append_assoc, List.take_append_of_le_length (by omega), List.take_of_length_le (by omega)]
  · rw [List.append_assoc, List.drop_append, List.drop_eq_nil_of_le (by omega), List.nil_append, hl, List.drop_append, List.drop_eq_nil_of_le (by omega), List.nil_append, h3, show j * 3 + 3 - j * 3 - 3 = 0 by omega, List.drop_zero]
/-- where the play stands -/
structure PL (w wr : World) (kb kr : Nat) (r u Y Z : Int) (va vp : Value) (L M : List Int) : Prop where
  b : MB w wr kb r u Y
  q : Has wr kr (bks r (16 * u) Z) 41
  ql : w.heap.size ≤ kr
  a : wr.ownsRow w.heap.size 24 3 va L.length (flat (bks r u) L)
  p : wr.ownsRow w.heap.size 41 3 vp M.length (flat (bks r (16 * u)) M)
  n1 : kb ≠ kr
  n2 : va.ownBlock ≠ some kb
  n3 : va.ownBlock ≠ some kr
  n4 : vp.ownBlock ≠ some kb
  n5 : vp.ownBlock ≠ some kr
  n6 : ∀ g, va.ownBlock = some g → vp.ownBlock ≠ some g
  l : ∀ y ∈ L, 0 ≤ y ∧ y ≤ 16 * u
section
variable {w wr w' : World} {kb kr : Nat} {r u Y Z X : Int} {va vp : Value} {L M : List Int}
theorem PL.grown (h : PL w wr kb kr r u Y Z va vp L M) (g : wr.grownBy w' none) : PL w w' kb kr r u Y Z va vp L M :=
  ⟨h.b.kept g, h.q.kept g (by simp), h.ql, own_fr h.a (Fr.ofNone (S := fun _ => False) g) (fun _ _ e => e), own_fr h.p (Fr.ofNone (S := fun _ => False) g) (fun _ _ e => e), h.n1, h.n2, h.n3, h.n4, h.n5, h.n6, h.l⟩
theorem PL.setB (h : PL w wr kb kr r u Y Z va vp L M) (b : MB w w' kb r u X) (g : wr.grownBy w' (some kb)) : PL w w' kb kr r u X Z va vp L M :=
  ⟨b, h.q.kept g (by simp [Ne.symm h.n1]), h.ql, own_fr h.a (Fr.of g) (fun k e q => h.n2 (by rw [e]; exact q.symm)), own_fr h.p (Fr.of g) (fun k e q => h.n4 (by rw [e]; exact q.symm)), h.n1, h.n2, h.n3, h.n4, h.n5, h.n6, h.l⟩
theorem PL.setQ (h : PL w wr kb kr r u Y Z va vp L M) (q : Has w' kr (bks r (16 * u) X) 41) (g : wr.grownBy w' (some kr)) : PL w w' kb kr r u Y X va vp L M :=
  ⟨h.b.other g h.ql h.n1, q, h.ql, own_fr h.a (Fr.of g) (fun k e q => h.n3 (by rw [e]; exact q.symm)), own_fr h.p (Fr.of g) (fun k e q => h.n5 (by rw [e]; exact q.symm)), h.n1, h.n2, h.n3, h.n4, h.n5, h.n6, h.l⟩
theorem infoB : ∃ i, Try.prog.info? 24 = some i ∧ i.size = 3 ∧ i.bytes = 24 ∧ i.zero = some (bv 0 0 0) := by
  have h : (Try.prog.info? 24).map (fun i => (i.size, i.bytes, i.zero)) = some (3, 24, some (bv 0 0 0)) := by kernel_rfl
  cases hq : Try.prog.info? 24 with
  | none => simp [hq] at h
  | some i =>
    simp [hq] at h
    exact ⟨i, rfl, h.1, h.2.1, h.2.2⟩
theorem infoR : ∃ i, Try.prog.info? 41 = some i ∧ i.size = 3 ∧ i.bytes = 24 ∧ i.zero = some (bv 0 0 0) := by
  have h : (Try.prog.info? 41).map (fun i => (i.size, i.bytes, i.zero)) = some (3, 24, some (bv 0 0 0)) := by kernel_rfl
  cases hq : Try.prog.info? 41 with
  | none => simp [hq] at h
  | some i =>
    simp [hq] at h
    exact ⟨i, rfl, h.1, h.2.1, h.2.2⟩
theorem under44 : Try.prog.underlying 44 = some (.slice 24) := by kernel_rfl
theorem under45 : Try.prog.underlying 45 = some (.slice 41) := by kernel_rfl
theorem bks_one {a b c : Int} : ∀ v ∈ bks a b c, v.oneCell' = true := fun v hv => by
  simp at hv
  rcases hv with rfl | rfl | rfl <;> rfl
theorem PL.appA (h : PL w wr kb kr r u Y Z va vp L M) (hl : L.length ≤ 1000000000) :
    ∃ g c w3, (Builtin.append_ #[44, 44] 44 #[va, .slice (some ⟨wr.heap.size, 0, none⟩) 1 1]).run Try.prog (wr.alloc (.cells #[.int .i64 r, .int .i64 u, .int .i64 Y] 24)) = .ok (.slice (some ⟨g, 0, none⟩) (L.length + 1) c) w3 ∧ PL w w3 kb kr r u Y Z (.slice (some ⟨g, 0, none⟩) (L.length + 1) c) vp (L ++ [Y]) M := by
  obtain ⟨i, h1, h2, h3, h4⟩ := infoB
  obtain ⟨g, c, w3, r1, r2, r3, r4⟩ := own_app under44 h1 h4 h2 h3 rfl (by decide) h.a (bks r u Y) rfl bks_one (by omega) (by decide) h.b.g.size
  have hlt := h.b.lt
  have hlq := h.q.lt
  have f : Fr (fun k => va.ownBlock = some k) wr w3 := Fr.of r3
  have eg : ∀ q, (Value.slice (some ⟨g, 0, none⟩) (L.length + 1) c).ownBlock = some q → g = q := fun q e => by simpa [Value.ownBlock] using e
  refine ⟨g, c, w3, r1, ⟨⟨⟨h.b.b.has.fr f h.n2, h.b.b.r0, h.b.b.r1, h.b.b.u0, h.b.b.u1, h.b.b.h0, h.b.b.h1⟩, ?_, h.b.lo⟩, h.q.fr f h.n3, h.ql, ?_, own_fr h.p f (fun k e q => h.n6 k q e), h.n1, fun e => ?_, fun e => ?_, h.n4, h.n5, fun q e1 e2 => ?_, fun y hy => ?_⟩⟩
  · exact ((Fr.ofNone (S := fun _ => False) h.b.g).then f (fun i e => .inr (h.a.lt i e).1)).none (fun i e => e.elim)
  · rw [List.length_append, flat_app]; exact r2
  · obtain rfl := eg _ e
    rcases r4 with z | z
    · exact h.n2 z
    · omega
  · obtain rfl := eg _ e
    rcases r4 with z | z
    · exact h.n3 z
    · omega
  · obtain rfl := eg _ e1
    rcases r4 with z | z
    · exact h.n6 _ z e2
    · have := (h.p.lt _ e2).2; omega
  · rcases List.mem_append.1 hy with q | q
    · exact h.l y q
    · simp at q; subst q; exact ⟨h.b.b.h0, h.b.b.h1⟩
theorem PL.appP (h : PL w wr kb kr r u Y Z va vp L M) (hl : M.length ≤ 1000000000) :
    ∃ g c w3, (Builtin.append_ #[45, 45] 45 #[vp, .slice (some ⟨wr.heap.size, 0, none⟩) 1 1]).run Try.prog (wr.alloc (.cells #[.int .i64 r, .int .i64 (16 * u), .int .i64 Z] 41)) = .ok (.slice (some ⟨g, 0, none⟩) (M.length + 1) c) w3 ∧ PL w w3 kb kr r u Y Z va (.slice (some ⟨g, 0, none⟩) (M.length + 1) c) L (M ++ [Z]) := by
  obtain ⟨i, h1, h2, h3, h4⟩ := infoR
  obtain ⟨g, c, w3, r1, r2, r3, r4⟩ := own_app under45 h1 h4 h2 h3 rfl (by decide) h.p (bks r (16 * u) Z) rfl bks_one (by omega) (by decide) h.b.g.size
  have hlt := h.b.lt
  have hlq := h.q.lt
  have f : Fr (fun k => vp.ownBlock = some k) wr w3 := Fr.of r3
  have eg : ∀ q, (Value.slice (some ⟨g, 0, none⟩) (M.length + 1) c).ownBlock = some q → g = q := fun q e => by simpa [Value.ownBlock] using e
  refine ⟨g, c, w3, r1, ⟨⟨⟨h.b.b.has.fr f h.n4, h.b.b.r0, h.b.b.r1, h.b.b.u0, h.b.b.u1, h.b.b.h0, h.b.b.h1⟩, ?_, h.b.lo⟩, h.q.fr f h.n5, h.ql, own_fr h.a f (fun k e q => h.n6 k e q), ?_, h.n1, h.n2, h.n3, fun e => ?_, fun e => ?_, fun q e1 e2 => ?_, h.l⟩⟩
  · exact ((Fr.ofNone (S := fun _ => False) h.b.g).then f (fun i e => .inr (h.p.lt i e).1)).none (fun i e => e.elim)
  · rw [List.length_append, flat_app]; exact r2
  · obtain rfl := eg _ e
    rcases r4 with z | z
    · exact h.n4 z
    · omega
  · obtain rfl := eg _ e
    rcases r4 with z | z
    · exact h.n5 z
    · omega
  · obtain rfl := eg _ e2
    rcases r4 with z | z
    · exact h.n6 _ e1 z
    · have := (h.a.lt _ e1).2; omega
theorem gr3 (w : World) (b j : Nat) (x y z : Value) : w.grownBy (((w.setCell ⟨b, j, none⟩ x).setCell ⟨b, j + 1, none⟩ y).setCell ⟨b, j + 2, none⟩ z) (some b) := ((gr_set w b j x).trans (gr_set _ b (j + 1) y)).trans (gr_set _ b (j + 2) z)
theorem PL.setA {g n c : Nat} (h : PL w wr kb kr r u Y Z (.slice (some ⟨g, 0, none⟩) n c) vp L M) (hn : L.length = n) {j : Nat} (hj : j < L.length) (hX : 0 ≤ X ∧ X ≤ 16 * u) :
    PL w (((wr.setCell ⟨g, j * 3, none⟩ (.int .i64 r)).setCell ⟨g, j * 3 + 1, none⟩ (.int .i64 u)).setCell ⟨g, j * 3 + 2, none⟩ (.int .i64 X)) kb kr r u Y Z (.slice (some ⟨g, 0, none⟩) n c) vp (L.set j X) M := by
  have g3 := gr3 wr g (j * 3) (.int .i64 r) (.int .i64 u) (.int .i64 X)
  have hlo : w.heap.size ≤ g := (h.a.lt g rfl).1
  have n2 : kb ≠ g := fun e => h.n2 (by rw [e]; rfl)
  have n3 : kr ≠ g := fun e => h.n3 (by rw [e]; rfl)
  refine ⟨h.b.other g3 hlo n2, h.q.kept g3 (by simp [n3]), h.ql, ?_, own_fr h.p (Fr.of g3) (fun k e q => h.n6 g rfl (by cases q; exact e)), h.n1, h.n2, h.n3, h.n4, h.n5, h.n6, fun y hy => ?_⟩
  · rw [List.length_set, ← flat_set (f := bks r u) (fun _ => rfl) L hj X]
    have ha := h.a
    rw [hn] at ha ⊢
    exact own_put (own_put (own_put ha _ _) _ _) _ _
  · rcases List.mem_or_eq_of_mem_set hy with q | q
    · exact h.l y q
    · subst q; exact hX
theorem PL.setP {g n c : Nat} (h : PL w wr kb kr r u Y Z va (.slice (some ⟨g, 0, none⟩) n c) L M) (hn : M.length = n) {j : Nat} (hj : j < M.length) :
    PL w (((wr.setCell ⟨g, j * 3, none⟩ (.int .i64 r)).setCell ⟨g, j * 3 + 1, none⟩ (.int .i64 (16 * u))).setCell ⟨g, j * 3 + 2, none⟩ (.int .i64 X)) kb kr r u Y Z va (.slice (some ⟨g, 0, none⟩) n c) L (M.set j X) := by
  have g3 := gr3 wr g (j * 3) (.int .i64 r) (.int .i64 (16 * u)) (.int .i64 X)
  have hlo : w.heap.size ≤ g := (h.p.lt g rfl).1
  have n2 : kb ≠ g := fun e => h.n4 (by rw [e]; rfl)
  have n3 : kr ≠ g := fun e => h.n5 (by rw [e]; rfl)
  refine ⟨h.b.other g3 hlo n2, h.q.kept g3 (by simp [n3]), h.ql, own_fr h.a (Fr.of g3) (fun k e q => h.n6 k e (by cases q; rfl)), ?_, h.n1, h.n2, h.n3, h.n4, h.n5, h.n6, h.l⟩
  rw [List.length_set, ← flat_set (f := bks r (16 * u)) (fun _ => rfl) M hj X]
  have ha := h.p
  rw [hn] at ha ⊢
  exact own_put (own_put (own_put ha _ _) _ _) _ _
/-- the three cells of one that was laid aside -/
theorem PL.atA {g n c : Nat} (h : PL w wr kb kr r u Y Z (.slice (some ⟨g, 0, none⟩) n c) vp L M) {j : Nat} (hj : j < L.length) :
    (∀ i v, i < 3 → (bks r u L[j])[i]? = some v → wr.cell? ⟨g, j * 3 + i, none⟩ = some v ∧ wr.frozen? ⟨g, j * 3 + i, none⟩ = false) ∧ 0 ≤ L[j] ∧ L[j] ≤ 16 * u := by
  obtain ⟨g', c', e, hc⟩ := own_cell h.a (by omega)
  injection e with e _ _
  cases e
  refine ⟨fun i v hi hv => hc _ _ ?_, h.l _ (List.getElem_mem _)⟩
  rw [flat_get (fun _ => rfl) L hj i hi]; exact hv
theorem PL.atP {g n c : Nat} (h : PL w wr kb kr r u Y Z va (.slice (some ⟨g, 0, none⟩) n c) L M) {j : Nat} (hj : j < M.length) :
    (∀ i v, i < 3 → (bks r (16 * u) M[j])[i]? = some v → wr.cell? ⟨g, j * 3 + i, none⟩ = some v ∧ wr.frozen? ⟨g, j * 3 + i, none⟩ = false) := by
  obtain ⟨g', c', e, hc⟩ := own_cell h.p (by omega)
  injection e with e _ _
  cases e
  refine fun i v hi hv => hc _ _ ?_
  rw [flat_get (fun _ => rfl) M hj i hi]; exact hv
theorem PL.shape (h : PL w wr kb kr r u Y Z va vp L M) (hL : 0 < L.length) (hM : M.length = L.length) : ∃ g c g' c', va = .slice (some ⟨g, 0, none⟩) L.length c ∧ vp = .slice (some ⟨g', 0, none⟩) L.length c' := by
  obtain ⟨g, c, e, _⟩ := own_cell h.a hL
  obtain ⟨g', c', e', _⟩ := own_cell h.p (by omega)
  exact ⟨g, c, g', c', e, by rw [e', hM]⟩
end
end Go.Proofs.Ytgdifgflofjeiaa
