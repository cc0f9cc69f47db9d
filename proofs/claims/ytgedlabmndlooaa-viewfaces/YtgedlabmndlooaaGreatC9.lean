/- slices: what CompactFunc leaves; like keys -/
import Derived.Test.YtgedlabmndlooaaGreatC8
import Derived.Lib.SliceRun
namespace Go.Proofs.YtgedlabmndlooaaGreat
open Go Go.RowKit Go.Maps

section
variable {α : Type} (key : α → Int)
/-- of each stretch of like keys the first -/
def ddp (k : Int) : List α → List α
  | [] => []
  | y :: r => if key y = k then ddp (key y) r else y :: ddp (key y) r
def dd : List α → List α
  | [] => []
  | x :: r => x :: ddp key (key x) r
variable {key}
theorem ddp_snoc : ∀ (r : List α) (k : Int) (y : α), ddp key k (r ++ [y]) = if key y = (r.getLast?.map key).getD k then ddp key k r else ddp key k r ++ [y]
  | [], k, y => by
    by_cases h : key y = k <;> simp [ddp, h]
  | z :: r, k, y => by
    have ih := ddp_snoc r (key z) y
    have e : ((z :: r).getLast?.map key).getD k = (r.getLast?.map key).getD (key z) := by
      cases r with
      | nil => rfl
      | cons a b =>
        rw [List.getLast?_cons_cons]
        cases h : (a :: b).getLast? with
        | none => simp at h
        | some w => rfl
    rw [e]
    generalize (r.getLast?.map key).getD (key z) = q at ih
    simp only [List.cons_append, ddp, ih]
    by_cases h1 : key z = k
    · rw [if_pos h1, if_pos h1]
    · rw [if_neg h1, if_neg h1]
      by_cases h2 : key y = q
      · rw [if_pos h2, if_pos h2]
      · rw [if_neg h2, if_neg h2]; rfl
theorem dd_snoc {L : List α} {x y : α} (hx : L.getLast? = some x) : dd key (L ++ [y]) = if key y = key x then dd key L else dd key L ++ [y] := by
  cases L with
  | nil => simp at hx
  | cons z r =>
    have e : (r.getLast?.map key).getD (key z) = key x := by
      cases r with
      | nil => simp at hx; rw [← hx]; rfl
      | cons a b => rw [List.getLast?_cons_cons] at hx; rw [hx]; rfl
    simp only [List.cons_append, dd, ddp_snoc, e]
    by_cases h2 : key y = key x
    · rw [if_pos h2, if_pos h2]
    · rw [if_neg h2, if_neg h2]
theorem ddp_len : ∀ (r : List α) (k : Int), (ddp key k r).length ≤ r.length
  | [], _ => Nat.le_refl _
  | y :: r, k => by
    have := ddp_len r (key y)
    simp only [ddp]
    split
    · simp only [List.length_cons]; omega
    · simp only [List.length_cons]; omega
theorem dd_len : ∀ (L : List α), (dd key L).length ≤ L.length
  | [] => Nat.le_refl _
  | x :: r => by
    have := ddp_len (key := key) r (key x)
    simp only [dd, List.length_cons]
    omega
theorem ddp_spec : ∀ (r : List α) (k : Int), Ris key r → (∀ y ∈ r, k ≤ key y) → (ddp key k r).Pairwise (fun a b => key a < key b) ∧ (∀ x ∈ ddp key k r, k < key x) ∧ ∀ x, x ∈ ddp key k r ↔ (key x ≠ k ∧ r.find? (fun y => key y == key x) = some x)
  | [], k, _, _ => by simp [ddp]
  | y :: r, k, hr, hk => by
    obtain ⟨h1, h2⟩ := List.pairwise_cons.1 hr
    obtain ⟨i1, i2, i3⟩ := ddp_spec r (key y) h2 h1
    have hy := hk y (List.mem_cons_self ..)
    by_cases e : key y = k
    · simp only [ddp, if_pos e]
      rw [e] at i1 i2 i3 ⊢
      refine ⟨i1, i2, fun x => ?_⟩
      rw [i3 x]
      constructor
      · rintro ⟨q1, q2⟩
        refine ⟨q1, ?_⟩
        rw [List.find?_cons, show (key y == key x) = false by simp; omega]
        exact q2
      · rintro ⟨q1, q2⟩
        refine ⟨q1, ?_⟩
        rw [List.find?_cons, show (key y == key x) = false by simp; omega] at q2
        exact q2
    · simp only [ddp, if_neg e]
      refine ⟨List.pairwise_cons.2 ⟨i2, i1⟩, fun x hx => ?_, fun x => ?_⟩
      · rcases List.mem_cons.1 hx with rfl | hx
        · omega
        · have := i2 x hx; omega
      · rw [List.mem_cons, i3 x]
        constructor
        · rintro (rfl | ⟨q1, q2⟩)
          · exact ⟨e, by rw [List.find?_cons]; simp⟩
          · have hx : x ∈ ddp key (key y) r := (i3 x).2 ⟨q1, q2⟩
            have := i2 x hx
            refine ⟨by omega, ?_⟩
            rw [List.find?_cons, show (key y == key x) = false by simp; omega]
            exact q2
        · rintro ⟨q1, q2⟩
          rw [List.find?_cons] at q2
          by_cases e2 : key y = key x
          · rw [show (key y == key x) = true by simp [e2]] at q2
            injection q2 with q2
            exact .inl q2.symm
          · rw [show (key y == key x) = false by simp [e2]] at q2
            exact .inr ⟨fun q => e2 q.symm, q2⟩
/-- the first of each key, by the keys, rising -/
def Fst1 (key : α → Int) (L C : List α) : Prop := C.Pairwise (fun a b => key a < key b) ∧ ∀ x, x ∈ C ↔ L.find? (fun y => key y == key x) = some x
theorem dd_spec {L : List α} (h : Ris key L) : Fst1 key L (dd key L) := by
  cases L with
  | nil => exact ⟨List.Pairwise.nil, fun x => by simp [dd]⟩
  | cons z r =>
    obtain ⟨h1, h2⟩ := List.pairwise_cons.1 h
    obtain ⟨i1, i2, i3⟩ := ddp_spec r (key z) h2 h1
    refine ⟨List.pairwise_cons.2 ⟨i2, i1⟩, fun x => ?_⟩
    show x ∈ z :: ddp key (key z) r ↔ _
    rw [List.mem_cons, i3 x, List.find?_cons]
    by_cases e : key z = key x
    · rw [show (key z == key x) = true by simp [e]]
      constructor
      · rintro (rfl | ⟨q1, _⟩)
        · rfl
        · exact absurd e.symm q1
      · intro q
        injection q with q
        exact .inl q.symm
    · rw [show (key z == key x) = false by simp [e]]
      constructor
      · rintro (rfl | ⟨_, q2⟩)
        · exact absurd rfl e
        · exact q2
      · intro q
        exact .inr ⟨fun q => e q.symm, q⟩
theorem Fst1.stb {L R C : List α} (h : Fst1 key R C) (s : Stb key L R) : Fst1 key L C := ⟨h.1, fun x => by rw [h.2 x, s.find]⟩
theorem dd_short {L : List α} (h : L.length < 2) : dd key L = L := by
  match L, h with
  | [], _ => rfl
  | [x], _ => rfl
end
theorem zeroCells_len (z : Value) (k n : Nat) (hz : z.cells.size = k) : (Builtin.zeroCells z.cells n).toList.length = n * k := by
  simp [Builtin.zeroCells, hz]
theorem run_clear_rows {P : Program} (w : World) (t e ty : TypeId) (z : Value) (ht : P.underlying t = some (.slice e)) (hv : ∀ w, (zeroValue e).run P w = .ok z w) (zs : List Value) (b o n c : Nat) (hn : 0 < n) (hzs : (Builtin.zeroCells z.cells n).toList = zs) (h1 : ∀ u ∈ zs, u.oneCell' = true)
    (hc : ∀ j, j < zs.length → (w.cell? ⟨b, o + j, none⟩).isSome = true) (hf : ∀ j, j < zs.length → w.frozen? ⟨b, o + j, none⟩ = false) :
    (Builtin.clear_ #[t] ty #[.slice (some ⟨b, o, none⟩) n c]).run P w = .ok (.tuple #[]) (w.setCells b o zs) := by
  have hst := run_storeCells_cells (P := P) b o zs 0 w (by simpa using hc) (by simpa using hf) h1
  simp only [Nat.add_zero] at hst
  obtain ⟨m, rfl⟩ : ∃ m, n = m + 1 := ⟨n - 1, by omega⟩
  simp [Builtin.clear_, run_underlying ht, hv, hzs, hst]
theorem Sep.rowCutV {w0 W : World} {l : List As} {e : TypeId} {k g n c : Nat} {xs : List Value} (m : Nat) (hm : m ≤ n) (h : Sep w0 W (rowV e k (sl g n c) n xs :: l)) : Sep w0 W (rowV e k (sl g m c) m (xs.take (m * k)) :: l) := by
  obtain ⟨F, ⟨ho, rfl⟩, _, hu⟩ := h.use
  refine hu W [_] (Fr.refl _ W) (Loc.one (a := rowV _ _ _ _ _) _ ⟨?_, rfl⟩ (fun i hi => .inl hi))
  obtain ⟨h1, h2⟩ := ho
  have hmk := Nat.mul_le_mul_right k hm
  refine ⟨by rw [List.length_take, h1, Nat.min_eq_left hmk], .inr ?_⟩
  rcases h2 with ⟨q, _⟩ | ⟨g', cap, cur, q, q1, q2, q3, q4, q5, q6⟩
  · cases q
  · injection q with e1 e2 e3
    subst e3
    refine ⟨g', c, cur, by cases e1; rfl, q1, q2, by omega, q4, q5, ?_⟩
    rw [← q6, List.take_take, Nat.min_eq_left hmk]
theorem wpList_clear_run {P : Program} (w : World) {ops : Array Oper} {rest : List Oper} {o : Oper} {a : Act} {Q : Exit → Act → World → Prop} (hgd : o.guard = none) (d : Operand) (t : TypeId)
    (ho : o.op = .call { callee := .builtin .clear, args := #[d], argTypes := #[t] }) (v : Value) (hd : a.eval d = v) {v' : Value} {w' : World}
    (hr : (Builtin.clear_ #[t] o.type #[v]).run P w = .ok v' w') (h : wpList P ops Q rest (a.put o.dst v') w') : wpList P ops Q (o :: rest) a w :=
  wpList_plain hgd fun _ hK => by
    unfold Oper.wp execOp
    simp only [ho, resolve, invoke, builtin, Sem.run_bind, Sem.run_pure, Result.andThen_ok, List.map_toArray, List.map_cons, List.map_nil, hd, hr]
    exact hK _ _ h
abbrev evC (kb : Nat) : Value := .func (.func 58) #[] #[pt kb]
theorem eeqC : ∀ args w, (callFunc 58 args).run Tryz.prog w = .ok (.enter 58 args) w := enters_of Tryz.func58 (by kernel_rfl) rfl
set_option maxRecDepth 100000 in
set_option maxHeartbeats 16000000 in
theorem eqcC (kb : Nat) (x y : Cr) (W : World) (hk : Has W kb [nvC] 86) : Calls Tryz.prog 58 #[vlC x, vlC y, pt kb] W fun e w' => e = .returned (.bool (x.pl == y.pl)) ∧ W.grownBy w' none := by
  obtain ⟨W1, hW1⟩ : ∃ w, W.alloc (.cells #[iv x.pl, .string x.nm, iv x.x, iv x.y, iv x.sx, iv x.sy, iv x.hd, iv x.he, iv x.en, iv x.am, iv x.co, iv x.wa, iv x.sp, iv x.sc] 26) = w := ⟨_, rfl⟩
  obtain ⟨W2, hW2⟩ : ∃ w, W1.alloc (.cells #[iv y.pl, .string y.nm, iv y.x, iv y.y, iv y.sx, iv y.sy, iv y.hd, iv y.he, iv y.en, iv y.am, iv y.co, iv y.wa, iv y.sp, iv y.sc] 26) = w := ⟨_, rfl⟩
  obtain ⟨b1, hb1⟩ : ∃ b, W.heap.size = b := ⟨_, rfl⟩
  obtain ⟨b2, hb2⟩ : ∃ b, W1.heap.size = b := ⟨_, rfl⟩
  have g1 : W.grownBy W1 none := by rw [← hW1]; exact gr_alloc _ _ _
  have g2 : W1.grownBy W2 none := by rw [← hW2]; exact gr_alloc _ _ _
  have HG := Keep.mk (g1.trans g2)
  have HX : Keep (Has W2 b1 (crv x) 26) := ⟨by
    have q := Has.newA W #[iv x.pl, .string x.nm, iv x.x, iv x.y, iv x.sx, iv x.sy, iv x.hd, iv x.he, iv x.en, iv x.am, iv x.co, iv x.wa, iv x.sp, iv x.sc] 26
    rw [hW1, hb1] at q
    exact q.kept g2 (by simp)⟩
  have HY : Keep (Has W2 b2 (crv y) 26) := ⟨by
    have q := Has.newA W1 #[iv y.pl, .string y.nm, iv y.x, iv y.y, iv y.sx, iv y.sy, iv y.hd, iv y.he, iv y.en, iv y.am, iv y.co, iv y.wa, iv y.sp, iv y.sc] 26
    rw [hW2, hb2] at q
    exact q⟩
  have HK0 : Keep (Has W2 kb [nvC] 86) := ⟨(hk.kept g1 (by simp)).kept g2 (by simp)⟩
  obtain ⟨du, hdu⟩ := under26
  have en := enumC
  clear g1 g2 hk
  go_enter Tryz.func58, Tryz.ntmps58
  go_wp2_with fail
  clear hW1 hW2 hb1 hb2
  refine region_Y (S := fun w' => W2.grownBy w' none) [] (by kernel_rfl) ?_
  obtain ⟨W0, hW0⟩ : ∃ W_, W2.drew = W_ := ⟨_, rfl⟩
  have HB := Keep.mk (gr_drew W2 none)
  rw [hW0] at HB ⊢
  clear hW0
  have hHeld := HB.out
  refine yt (i := 0) (v := ?_) rfl (Or.inl ⟨by rfl, ?_⟩) (by assumption) ?_
  rotate_left
  · (intro w hSw; have q0 := (HK0.out.kept hSw (by simp)).cellv 0 _ rfl; go_simp; first | done | (with_reducible rfl))
  simp only [Act.put, A1, A3, A4, A5, A6]
  refine yt (i := 1) (v := .agg (crv x).toArray) rfl (yieldsIf_load_mid (by rfl) 26 _ rfl _ _ rfl _ _ (fun w hSw => ((HX.out).kept hSw (by simp)).range) hdu.1 hdu.2 info26) (by assumption) ?_
  simp only [Act.put, A1, A2, A3, A4, A5, A6]
  refine yt (i := 3) (v := ?_) rfl (Or.inl ⟨by rfl, ?_⟩) (by assumption) ?_
  rotate_left
  · (intro w hSw; have q0 := (HK0.out.kept hSw (by simp)).cellv 0 _ rfl; go_simp; first | done | (with_reducible rfl))
  simp only [Act.put, A1, A2, A3, A4, A5, A6]
  refine yt (i := 4) (v := .agg (crv y).toArray) rfl (yieldsIf_load_mid (by rfl) 26 _ rfl _ _ rfl _ _ (fun w hSw => ((HY.out).kept hSw (by simp)).range) hdu.1 hdu.2 info26) (by assumption) ?_
  simp only [Act.put, A1, A2, A3, A4, A5, A6]
  refine wpAnyY_one (i := 2) (by kernel_rfl) rfl (fun K hK => ?_)
  go_simp
  refine (numC x _).mono ?_
  rintro e wa ⟨rfl, hg⟩
  replace HB := Keep.mk (HB.out.trans hg)
  refine hK.out _ _ (fun h => h.trans hg) ?_
  clear hK K hg hHeld
  have hHeld := HB.out
  refine wpAnyY_one (i := 5) (by kernel_rfl) rfl (fun K hK => ?_)
  go_simp
  refine (numC y _).mono ?_
  rintro e wb ⟨rfl, hg⟩
  replace HB := Keep.mk (HB.out.trans hg)
  refine hK.out _ _ (fun h => h.trans hg) ?_
  clear hK K hg hHeld
  have hHeld := HB.out
  refine yp (i := 6) (v := .bool (x.pl == y.pl)) rfl (Or.inl ⟨by rfl, ?_⟩) ?_
  · (intro w hSw; go_simp; first | done | rfl | (simp; done) | trace_state)
  simp only [Act.put, A1, A2, A3, A4, A5, A6]
  refine wpAnyY_one (i := 7) (by kernel_rfl) rfl (fun K hK => ?_)
  go_simp
  refine hK.out _ _ (fun h => h) ?_
  clear hK K
  refine wpAnyY_done (by kernel_rfl) ?_ _
  go_wp2_with fail
  go_ret
  exact ⟨rfl, HG.out.trans HB.out⟩
abbrev evS (kb : Nat) : Value := .func (.func 64) #[] #[pt kb]
theorem eeqS : ∀ args w, (callFunc 64 args).run Tryz.prog w = .ok (.enter 64 args) w := enters_of Tryz.func64 (by kernel_rfl) rfl
set_option maxRecDepth 100000 in
set_option maxHeartbeats 16000000 in
theorem eqcS (kb : Nat) (x y : Sh) (W : World) (hk : Has W kb [nvS] 91) : Calls Tryz.prog 64 #[vlS x, vlS y, pt kb] W fun e w' => e = .returned (.bool (x.id == y.id)) ∧ W.grownBy w' none := by
  obtain ⟨W1, hW1⟩ : ∃ w, W.alloc (.cells #[iv x.id, iv x.pl, iv x.x, iv x.y, iv x.sx, iv x.sy, iv x.lf] 46) = w := ⟨_, rfl⟩
  obtain ⟨W2, hW2⟩ : ∃ w, W1.alloc (.cells #[iv y.id, iv y.pl, iv y.x, iv y.y, iv y.sx, iv y.sy, iv y.lf] 46) = w := ⟨_, rfl⟩
  obtain ⟨b1, hb1⟩ : ∃ b, W.heap.size = b := ⟨_, rfl⟩
  obtain ⟨b2, hb2⟩ : ∃ b, W1.heap.size = b := ⟨_, rfl⟩
  have g1 : W.grownBy W1 none := by rw [← hW1]; exact gr_alloc _ _ _
  have g2 : W1.grownBy W2 none := by rw [← hW2]; exact gr_alloc _ _ _
  have HG := Keep.mk (g1.trans g2)
  have HX : Keep (Has W2 b1 (shv x) 46) := ⟨by
    have q := Has.newA W #[iv x.id, iv x.pl, iv x.x, iv x.y, iv x.sx, iv x.sy, iv x.lf] 46
    rw [hW1, hb1] at q
    exact q.kept g2 (by simp)⟩
  have HY : Keep (Has W2 b2 (shv y) 46) := ⟨by
    have q := Has.newA W1 #[iv y.id, iv y.pl, iv y.x, iv y.y, iv y.sx, iv y.sy, iv y.lf] 46
    rw [hW2, hb2] at q
    exact q⟩
  have HK0 : Keep (Has W2 kb [nvS] 91) := ⟨(hk.kept g1 (by simp)).kept g2 (by simp)⟩
  obtain ⟨du, hdu⟩ := under46
  have en := enumS
  clear g1 g2 hk
  go_enter Tryz.func64, Tryz.ntmps64
  go_wp2_with fail
  clear hW1 hW2 hb1 hb2
  refine region_Y (S := fun w' => W2.grownBy w' none) [] (by kernel_rfl) ?_
  obtain ⟨W0, hW0⟩ : ∃ W_, W2.drew = W_ := ⟨_, rfl⟩
  have HB := Keep.mk (gr_drew W2 none)
  rw [hW0] at HB ⊢
  clear hW0
  have hHeld := HB.out
  refine yt (i := 0) (v := ?_) rfl (Or.inl ⟨by rfl, ?_⟩) (by assumption) ?_
  rotate_left
  · (intro w hSw; have q0 := (HK0.out.kept hSw (by simp)).cellv 0 _ rfl; go_simp; first | done | (with_reducible rfl))
  simp only [Act.put, A1, A3, A4, A5, A6]
  refine yt (i := 1) (v := .agg (shv x).toArray) rfl (yieldsIf_load_mid (by rfl) 46 _ rfl _ _ rfl _ _ (fun w hSw => ((HX.out).kept hSw (by simp)).range) hdu.1 hdu.2 info46) (by assumption) ?_
  simp only [Act.put, A1, A2, A3, A4, A5, A6]
  refine yt (i := 3) (v := ?_) rfl (Or.inl ⟨by rfl, ?_⟩) (by assumption) ?_
  rotate_left
  · (intro w hSw; have q0 := (HK0.out.kept hSw (by simp)).cellv 0 _ rfl; go_simp; first | done | (with_reducible rfl))
  simp only [Act.put, A1, A2, A3, A4, A5, A6]
  refine yt (i := 4) (v := .agg (shv y).toArray) rfl (yieldsIf_load_mid (by rfl) 46 _ rfl _ _ rfl _ _ (fun w hSw => ((HY.out).kept hSw (by simp)).range) hdu.1 hdu.2 info46) (by assumption) ?_
  simp only [Act.put, A1, A2, A3, A4, A5, A6]
  refine wpAnyY_one (i := 2) (by kernel_rfl) rfl (fun K hK => ?_)
  go_simp
  refine (numS x _).mono ?_
  rintro e wa ⟨rfl, hg⟩
  replace HB := Keep.mk (HB.out.trans hg)
  refine hK.out _ _ (fun h => h.trans hg) ?_
  clear hK K hg hHeld
  have hHeld := HB.out
  refine wpAnyY_one (i := 5) (by kernel_rfl) rfl (fun K hK => ?_)
  go_simp
  refine (numS y _).mono ?_
  rintro e wb ⟨rfl, hg⟩
  replace HB := Keep.mk (HB.out.trans hg)
  refine hK.out _ _ (fun h => h.trans hg) ?_
  clear hK K hg hHeld
  have hHeld := HB.out
  refine yp (i := 6) (v := .bool (x.id == y.id)) rfl (Or.inl ⟨by rfl, ?_⟩) ?_
  · (intro w hSw; go_simp; first | done | rfl | (simp; done) | trace_state)
  simp only [Act.put, A1, A2, A3, A4, A5, A6]
  refine wpAnyY_one (i := 7) (by kernel_rfl) rfl (fun K hK => ?_)
  go_simp
  refine hK.out _ _ (fun h => h) ?_
  clear hK K
  refine wpAnyY_done (by kernel_rfl) ?_ _
  go_wp2_with fail
  go_ret
  exact ⟨rfl, HG.out.trans HB.out⟩
end Go.Proofs.YtgedlabmndlooaaGreat
