/- SmoothSelf -/
import Derived.Test.YtfhhneibdmjfgaaB2
import Derived.Test.YtfhhneibdmjfgaaF1
namespace Go.Proofs.Ytfhhneibdmjfgaa
open Go Go.RowKit Go.Maps Sm
set_option maxRecDepth 100000
attribute [local go_sem] run_store_fl
theorem Sep.merge {w0 W W' : World} {l l' : List As} (h : Sep w0 W l) (k : Sep W W' l') : Sep w0 W' (l' ++ l) := by
  obtain ⟨m, h1, h2, h3⟩ := k.ex
  exact h.new k.g ⟨m, h1, fun p hp => ⟨(h2 p hp).1, fun i hi => .inr ((h2 p hp).2 i hi)⟩, h3⟩
theorem und29 : ∃ d, Try.prog.underlying 29 = some d ∧ d.isRow = true := ⟨_, Try.underlying29, rfl⟩
theorem info29 : (Try.prog.info? 29).map (·.size) = some 16 := by kernel_rfl
theorem builtV (p : Int) (n : ByteArray) (x y u v h he en am co wt sp sc : Int) : Try.prog.built 29 [(1, .agg #[iv p, .string n, iv x, iv y, iv u, iv v, iv h, iv he, iv en, iv am, iv co, iv wt, iv sp, iv sc])] = some #[.int .u64 0, iv p, .string n, iv x, iv y, iv u, iv v, iv h, iv he, iv en, iv am, iv co, iv wt, iv sp, iv sc, .slice none 0 0] := by kernel_rfl
theorem rdS_nil (W : World) : RdS W (.slice none 0 0) [] := ⟨⟨none, 0, rfl, fun h => by simp at h⟩⟩
theorem eqT {x y : Nat} (h : eqF x y = true) (w : World) : (Op.equalIn 9999 30 (fv x) (fv y)).run Try.prog w = .ok true w := by
  have q := eqFl 9998 x y w
  rw [h] at q
  exact q
theorem and3 {a b c : Bool} (h : (a && (b && c)) = true) : a = true ∧ b = true ∧ c = true := by
  cases a <;> cases b <;> cases c <;> simp at h ⊢
/-- no two of a kind and an id, up to i -/
def Nd (L : List Sn) (i : Nat) : Prop := ∀ p q x y, p < q → q < i → L[p]? = some x → L[q]? = some y → ¬ (y.k = x.k ∧ y.i = x.i)
theorem fst1_nd {L : List Sn} (h : Nd L L.length) {i : Nat} {s : Sn} (hs : L[i]? = some s) : fst1 L (s.k, s.i) = some s := by
  unfold fst1
  rw [List.find?_eq_some_iff_getElem]
  obtain ⟨hi, e⟩ := List.getElem?_eq_some_iff.1 hs
  refine ⟨by simp, i, hi, e, fun j hj => ?_⟩
  have hj2 : j < L.length := by omega
  have := h j i L[j] s hj hi (List.getElem?_eq_getElem hj2) hs
  simp only [Bool.not_eq_true', decide_eq_false_iff_not]
  intro q
  exact this ⟨q.1.symm, q.2.symm⟩
theorem fm_all {L B : List Sn} {t : OF} {f : Sn → Pl} (h : ∀ s ∈ L, oneV B t s = some (f s)) : L.filterMap (oneV B t) = L.map f := by
  induction L with
  | nil => rfl
  | cons x r ih =>
    rw [List.filterMap_cons, h x (List.mem_cons_self ..), List.map_cons, ih (fun s hs => h s (List.mem_cons_of_mem _ hs))]
def ofS (s : Sn) : Pl := ofV s.x s.y s.h
theorem fm_self {L : List Sn} (h : Nd L L.length) (t : OF) : L.filterMap (oneV L t) = L.map (fun s => mixV (ofS s) (ofS s) t) := by
  refine fm_all fun s hs => ?_
  obtain ⟨i, hi⟩ := List.getElem?_of_mem hs
  unfold oneV
  rw [fst1_nd h hi]
  rfl
theorem fm_none {L : List Sn} (t : OF) : L.filterMap (oneV [] t) = [] := by
  induction L with
  | nil => rfl
  | cons x r ih => rw [List.filterMap_cons]; exact ih
/-- what is shown is where Of shows it -/
theorem shown_eq {p r : Pt} {x y h : Int} {t : Nat} (hx : I64 x) (hy : I64 y) (hr : vP r = mixV (ofV x y h) (ofV x y h) (V t)) (hp : vP p = ofV x y h) : (eqF r.x p.x && (eqF r.y p.y && eqF r.a p.a)) = true := by
  obtain ⟨m1, m2, m3⟩ := mix_self x y h t hx hy
  have e : mixV (ofV x y h) (ofV x y h) (V t) = mixS (ofV x y h) (V t) := rfl
  rw [e] at hr
  rw [← hr, ← hp] at m1 m2 m3
  have q1 : eqF r.x p.x = true := by rw [eqF_V]; simp only [vP] at m1; rw [m1]; rfl
  have q2 : eqF r.y p.y = true := by rw [eqF_V]; simp only [vP] at m2; rw [m2]; rfl
  have q3 : eqF r.a p.a = true := by rw [eqF_V]; simp only [vP] at m3; rw [m3]; rfl
  rw [q1, q2, q3]; rfl
/-- the cells of a row of places -/
theorem pls_get {P : List Pt} {j : Nat} {p : Pt} (h : P[j]? = some p) : (pls P)[j * 3]? = some (fv p.x) ∧ (pls P)[j * 3 + 1]? = some (fv p.y) ∧ (pls P)[j * 3 + 2]? = some (fv p.a) := by
  induction P generalizing j with
  | nil => cases h
  | cons x r ih =>
    cases j with
    | zero => cases h; exact ⟨rfl, rfl, rfl⟩
    | succ j =>
      have := ih (show r[j]? = some p from h)
      have e : pls (x :: r) = ptv x ++ pls r := rfl
      rw [e]
      have l3 : (ptv x).length = 3 := rfl
      refine ⟨?_, ?_, ?_⟩
      · rw [List.getElem?_append_right (by rw [l3]; omega), l3, show (j + 1) * 3 - 3 = j * 3 by omega]; exact this.1
      · rw [List.getElem?_append_right (by rw [l3]; omega), l3, show (j + 1) * 3 + 1 - 3 = j * 3 + 1 by omega]; exact this.2.1
      · rw [List.getElem?_append_right (by rw [l3]; omega), l3, show (j + 1) * 3 + 2 - 3 = j * 3 + 2 by omega]; exact this.2.2
theorem row_cells {W : World} {g n c : Nat} {P : List Pt} (h : W.ownsRow 0 37 3 (.slice (some ⟨g, 0, none⟩) n c) n (pls P)) (hn : 0 < n) {j : Nat} {p : Pt} (hp : P[j]? = some p) : W.cell? ⟨g, j * 3, none⟩ = some (fv p.x) ∧ W.cell? ⟨g, j * 3 + 1, none⟩ = some (fv p.y) ∧ W.cell? ⟨g, j * 3 + 2, none⟩ = some (fv p.a) := by
  obtain ⟨g', c', e, q⟩ := own_any h hn
  injection e with e _ _
  injection e with e
  injection e with e _ _
  subst e
  obtain ⟨a1, a2, a3⟩ := pls_get hp
  exact ⟨(q _ _ a1).1, (q _ _ a2).1, (q _ _ a3).1⟩
set_option maxHeartbeats 64000000 in
theorem self_c (w0 : World) (tk : Int) (c : Cr) (va : Value) (L : List Sn) (t : Nat) (hp : I64 c.p) (hcx : I64 c.x) (hcy : I64 c.y) (hL : RdS w0 va L) (hO : ∀ x ∈ L, SnOk x) (hn : (L.length + 1) * 12 ≤ 140737488355328) :
    Calls Try.prog 3 #[.agg (vwA tk c va), fv t] w0 fun e w' => e = .returned (.bool true) ∧ w0.grownBy w' none := by
  obtain ⟨aa, cap, hva, hqa⟩ := hL.o
  obtain ⟨n, hnL⟩ : ∃ n, L.length = n := ⟨_, rfl⟩
  have HN := Keep.mk hnL
  have HRA := Keep.mk (And.intro hL (And.intro hO (And.intro hp (And.intro hcx hcy))))
  rw [hnL] at hn hva hqa
  subst hva
  have HA : Keep (0 < n → ∃ g o, aa = some ⟨g, o, none⟩ ∧ ∀ j x, L[j]? = some x → w0.rangeAt g (o + j * 5) (snv x)) := ⟨hqa⟩
  have HS := Keep.mk ((Sep.nil w0).newBox (vwA tk c (.slice aa n cap)) 29)
  clear hL hO hp hcx hcy hnL hqa
  go_enter Try.func3, Try.ntmps3
  go_wp2_with fail
  obtain ⟨xb, hxb⟩ : ∃ xb, w0.heap.size = xb := ⟨_, rfl⟩
  rw [hxb] at HS
  try rw [hxb]
  clear hxb
  generalize w0.alloc (.cells (vwA tk c (.slice aa n cap)) 29) = W1 at HS ⊢
  refine (alive_c W1).mono ?_
  rintro e W2 ⟨rfl, g⟩
  have HS2 : Keep (Sep w0 W2 [boxA xb (vwL tk c (.slice aa n cap)) 29]) := ⟨HS.out.grown g⟩
  clear HS g
  go_wp2_with fail
  go_loopw [5] (fun u wr => ∃ i : Nat, i ≤ n ∧ u = iv i ∧ Keep (Nd L i) ∧ Keep (Sep w0 wr [boxA xb (vwL tk c (.slice aa n cap)) 29])) (fun u _ => (n - intOf u).toNat)
  case atStart => exact ⟨0, by omega, rfl, ⟨fun p q x y h1 h2 => absurd h2 (by omega)⟩, HS2⟩
  case round =>
    clear HS2
    obtain ⟨i, hi, rfl, HD, HS⟩ := hrel
    have lV := (HS.out.boxGet k0m).cellv 15 _ rfl
    by_cases hlt : i < n
    · obtain ⟨s, hs⟩ : ∃ s, L[i]? = some s := ⟨_, List.getElem?_eq_getElem (by rw [HN.out]; exact hlt)⟩
      obtain ⟨g, o, rfl, hc⟩ := HA.out (by omega)
      have HC := Keep.mk hc
      have HI := Keep.mk hs
      have hi0 : (0 : Int) ≤ (i : Int) := by omega
      have hi1 : (i : Int) < (n : Nat) := by omega
      have hti : ((i : Nat) : Int).toNat = i := by omega
      have hwi : IntKind.i64.wrap ((i : Int) + 1) = ((i + 1 : Nat) : Int) := by rw [wi _ (by omega) (by omega)]; omega
      clear hc hs
      go_wp2_with fail
      clear lV
      go_loopw [6] (fun u wr => ∃ k : Nat, k ≤ i ∧ u = iv k ∧ Keep (∀ p x, p < k → L[p]? = some x → ¬ (s.k = x.k ∧ s.i = x.i)) ∧ Keep (Sep w0 wr [boxA xb (vwL tk c (.slice (some ⟨g, o, none⟩) n cap)) 29])) (fun u _ => (i - intOf u).toNat)
      case atStart => exact ⟨0, by omega, rfl, ⟨fun p x h => absurd h (by omega)⟩, HS⟩
      case round =>
        clear HS
        obtain ⟨k, hk, rfl, HE, HS⟩ := hrel
        by_cases hlk : k < i
        · obtain ⟨x, hx⟩ : ∃ x, L[k]? = some x := ⟨_, List.getElem?_eq_getElem (by rw [HN.out]; omega)⟩
          have hk0 : (0 : Int) ≤ (k : Int) := by omega
          have hk1 : (k : Int) < (i : Nat) := by omega
          have hk2 : (k : Int) < (n : Nat) := by omega
          have htk : ((k : Nat) : Int).toNat = k := by omega
          have hwk : IntKind.i64.wrap ((k : Int) + 1) = ((k + 1 : Nat) : Int) := by rw [wi _ (by omega) (by omega)]; omega
          have HVB : Keep (∀ w, wr.grownBy w none → Has w xb (vwL tk c (.slice (some ⟨g, o, none⟩) n cap)) 29) := ⟨fun w h => (HS.out.grown h).boxGet k0m⟩
          have HXI : Keep (∀ w, wr.grownBy w none → w.cell? ⟨g, o + i * 5, none⟩ = some (iv s.k) ∧ w.cell? ⟨g, o + i * 5 + 1, none⟩ = some (iv s.i)) := ⟨fun w h => by
            have q := sn_cells (range_kept (HC.out i s HI.out) (HS.out.1.trans h))
            exact ⟨q.1, q.2.1⟩⟩
          have HXK : Keep (∀ w, wr.grownBy w none → w.cell? ⟨g, o + k * 5, none⟩ = some (iv x.k) ∧ w.cell? ⟨g, o + k * 5 + 1, none⟩ = some (iv x.i)) := ⟨fun w h => by
            have q := sn_cells (range_kept (HC.out k x hx) (HS.out.1.trans h))
            exact ⟨q.1, q.2.1⟩⟩
          have HXX := Keep.mk hx
          clear hx
          by_cases e1 : s.k = x.k
          · have d1 : (s.k == x.k) = true := by simp [e1]
            have E1 := Keep.mk e1
            clear e1
            by_cases e2 : s.i = x.i
            · have d2 : (s.i == x.i) = true := by simp [e2]
              clear e2
              go_wp2_with fail
              refine region_R (fun w => wr.grownBy w none) [] [] (fun i v => False) 0 28 (by kernel_rfl) (by rfl) (gr_drew _ _) (fun hHeld => ?_)
              refine wpR_pure (i := 0) (oi := _) (v := ?_) rfl (by kernel_rfl) (by kernel_rfl) (by kernel_rfl) (by kernel_rfl) (by kernel_rfl) (by kernel_rfl) hHeld (Or.inl ⟨by rfl, ?_⟩) ?_
              rotate_left
              · (intro w hSw; go_simp; first | done | (with_reducible rfl))
              simp only [Act.put, List.getElem_toArray, List.getElem_cons_zero, List.setIfInBounds_toArray, List.set_cons_zero, List.set_cons_succ]
              refine wpR_pure (i := 1) (oi := _) (v := ?_) rfl (by kernel_rfl) (by kernel_rfl) (by kernel_rfl) (by kernel_rfl) (by kernel_rfl) (by kernel_rfl) hHeld (Or.inl ⟨by rfl, ?_⟩) ?_
              rotate_left
              · (intro w hSw; have q0 := (HVB.out w hSw).cellv 15 _ rfl; go_simp; first | done | (with_reducible rfl))
              simp only [Act.put, List.getElem_toArray, List.getElem_cons_succ, List.getElem_cons_zero, List.setIfInBounds_toArray, List.set_cons_zero, List.set_cons_succ]
              refine wpR_pure (i := 2) (oi := _) (v := ?_) rfl (by kernel_rfl) (by kernel_rfl) (by kernel_rfl) (by kernel_rfl) (by kernel_rfl) (by kernel_rfl) hHeld (Or.inl ⟨by rfl, ?_⟩) ?_
              rotate_left
              · (intro w hSw; go_simp; first | done | (with_reducible rfl))
              simp only [Act.put, List.getElem_toArray, List.getElem_cons_succ, List.getElem_cons_zero, List.setIfInBounds_toArray, List.set_cons_zero, List.set_cons_succ]
              refine wpR_pure (i := 3) (oi := _) (v := ?_) rfl (by kernel_rfl) (by kernel_rfl) (by kernel_rfl) (by kernel_rfl) (by kernel_rfl) (by kernel_rfl) hHeld (Or.inl ⟨by rfl, ?_⟩) ?_
              rotate_left
              · (intro w hSw; go_simp; first | done | (with_reducible rfl))
              simp only [Act.put, List.getElem_toArray, List.getElem_cons_succ, List.getElem_cons_zero, List.setIfInBounds_toArray, List.set_cons_zero, List.set_cons_succ]
              refine wpR_pure (i := 4) (oi := _) (v := ?_) rfl (by kernel_rfl) (by kernel_rfl) (by kernel_rfl) (by kernel_rfl) (by kernel_rfl) (by kernel_rfl) hHeld (Or.inl ⟨by rfl, ?_⟩) ?_
              rotate_left
              · (intro w hSw; go_simp; first | done | (with_reducible rfl))
              simp only [Act.put, List.getElem_toArray, List.getElem_cons_succ, List.getElem_cons_zero, List.setIfInBounds_toArray, List.set_cons_zero, List.set_cons_succ]
              refine wpR_pure (i := 5) (oi := _) (v := ?_) rfl (by kernel_rfl) (by kernel_rfl) (by kernel_rfl) (by kernel_rfl) (by kernel_rfl) (by kernel_rfl) hHeld (Or.inl ⟨by rfl, ?_⟩) ?_
              rotate_left
              · (intro w hSw; obtain ⟨q0, q1⟩ := HXI.out w hSw; go_simp; first | done | (with_reducible rfl))
              simp only [Act.put, List.getElem_toArray, List.getElem_cons_succ, List.getElem_cons_zero, List.setIfInBounds_toArray, List.set_cons_zero, List.set_cons_succ]
              refine wpR_pure (i := 6) (oi := _) (v := ?_) rfl (by kernel_rfl) (by kernel_rfl) (by kernel_rfl) (by kernel_rfl) (by kernel_rfl) (by kernel_rfl) hHeld (Or.inl ⟨by rfl, ?_⟩) ?_
              rotate_left
              · (intro w hSw; go_simp; first | done | (with_reducible rfl))
              simp only [Act.put, List.getElem_toArray, List.getElem_cons_succ, List.getElem_cons_zero, List.setIfInBounds_toArray, List.set_cons_zero, List.set_cons_succ]
              refine wpR_pure (i := 7) (oi := _) (v := ?_) rfl (by kernel_rfl) (by kernel_rfl) (by kernel_rfl) (by kernel_rfl) (by kernel_rfl) (by kernel_rfl) hHeld (Or.inl ⟨by rfl, ?_⟩) ?_
              rotate_left
              · (intro w hSw; have q0 := (HVB.out w hSw).cellv 15 _ rfl; go_simp; first | done | (with_reducible rfl))
              simp only [Act.put, List.getElem_toArray, List.getElem_cons_succ, List.getElem_cons_zero, List.setIfInBounds_toArray, List.set_cons_zero, List.set_cons_succ]
              refine wpR_pure (i := 8) (oi := _) (v := ?_) rfl (by kernel_rfl) (by kernel_rfl) (by kernel_rfl) (by kernel_rfl) (by kernel_rfl) (by kernel_rfl) hHeld (Or.inl ⟨by rfl, ?_⟩) ?_
              rotate_left
              · (intro w hSw; go_simp; first | done | (with_reducible rfl))
              simp only [Act.put, List.getElem_toArray, List.getElem_cons_succ, List.getElem_cons_zero, List.setIfInBounds_toArray, List.set_cons_zero, List.set_cons_succ]
              refine wpR_pure (i := 9) (oi := _) (v := ?_) rfl (by kernel_rfl) (by kernel_rfl) (by kernel_rfl) (by kernel_rfl) (by kernel_rfl) (by kernel_rfl) hHeld (Or.inl ⟨by rfl, ?_⟩) ?_
              rotate_left
              · (intro w hSw; go_simp; first | done | (with_reducible rfl))
              simp only [Act.put, List.getElem_toArray, List.getElem_cons_succ, List.getElem_cons_zero, List.setIfInBounds_toArray, List.set_cons_zero, List.set_cons_succ]
              refine wpR_pure (i := 10) (oi := _) (v := ?_) rfl (by kernel_rfl) (by kernel_rfl) (by kernel_rfl) (by kernel_rfl) (by kernel_rfl) (by kernel_rfl) hHeld (Or.inl ⟨by rfl, ?_⟩) ?_
              rotate_left
              · (intro w hSw; go_simp; first | done | (with_reducible rfl))
              simp only [Act.put, List.getElem_toArray, List.getElem_cons_succ, List.getElem_cons_zero, List.setIfInBounds_toArray, List.set_cons_zero, List.set_cons_succ]
              refine wpR_pure (i := 11) (oi := _) (v := ?_) rfl (by kernel_rfl) (by kernel_rfl) (by kernel_rfl) (by kernel_rfl) (by kernel_rfl) (by kernel_rfl) hHeld (Or.inl ⟨by rfl, ?_⟩) ?_
              rotate_left
              · (intro w hSw; obtain ⟨q0, q1⟩ := HXK.out w hSw; go_simp; first | done | (with_reducible rfl))
              simp only [Act.put, List.getElem_toArray, List.getElem_cons_succ, List.getElem_cons_zero, List.setIfInBounds_toArray, List.set_cons_zero, List.set_cons_succ]
              refine wpR_pure (i := 12) (oi := _) (v := ?_) rfl (by kernel_rfl) (by kernel_rfl) (by kernel_rfl) (by kernel_rfl) (by kernel_rfl) (by kernel_rfl) hHeld (Or.inl ⟨by rfl, ?_⟩) ?_
              rotate_left
              · (intro w hSw; go_simp; first | done | (with_reducible rfl))
              simp only [Act.put, List.getElem_toArray, List.getElem_cons_succ, List.getElem_cons_zero, List.setIfInBounds_toArray, List.set_cons_zero, List.set_cons_succ]
              refine wpR_pure (i := 13) (oi := _) (v := ?_) rfl (by kernel_rfl) (by kernel_rfl) (by kernel_rfl) (by kernel_rfl) (by kernel_rfl) (by kernel_rfl) hHeld (Or.inl ⟨by rfl, ?_⟩) ?_
              rotate_left
              · (intro w hSw; go_simp; first | done | (with_reducible rfl))
              simp only [Act.put, List.getElem_toArray, List.getElem_cons_succ, List.getElem_cons_zero, List.setIfInBounds_toArray, List.set_cons_zero, List.set_cons_succ]
              refine wpR_pure (i := 14) (oi := _) (v := ?_) rfl (by kernel_rfl) (by kernel_rfl) (by kernel_rfl) (by kernel_rfl) (by kernel_rfl) (by kernel_rfl) hHeld (Or.inl ⟨by rfl, ?_⟩) ?_
              rotate_left
              · (intro w hSw; go_simp; first | done | (with_reducible rfl))
              simp only [Act.put, List.getElem_toArray, List.getElem_cons_succ, List.getElem_cons_zero, List.setIfInBounds_toArray, List.set_cons_zero, List.set_cons_succ]
              refine wpR_pure (i := 15) (oi := _) (v := ?_) rfl (by kernel_rfl) (by kernel_rfl) (by kernel_rfl) (by kernel_rfl) (by kernel_rfl) (by kernel_rfl) hHeld (Or.inl ⟨by rfl, ?_⟩) ?_
              rotate_left
              · (intro w hSw; have q0 := (HVB.out w hSw).cellv 15 _ rfl; go_simp; first | done | (with_reducible rfl))
              simp only [Act.put, List.getElem_toArray, List.getElem_cons_succ, List.getElem_cons_zero, List.setIfInBounds_toArray, List.set_cons_zero, List.set_cons_succ]
              refine wpR_pure (i := 16) (oi := _) (v := ?_) rfl (by kernel_rfl) (by kernel_rfl) (by kernel_rfl) (by kernel_rfl) (by kernel_rfl) (by kernel_rfl) hHeld (Or.inl ⟨by rfl, ?_⟩) ?_
              rotate_left
              · (intro w hSw; go_simp; first | done | (with_reducible rfl))
              simp only [Act.put, List.getElem_toArray, List.getElem_cons_succ, List.getElem_cons_zero, List.setIfInBounds_toArray, List.set_cons_zero, List.set_cons_succ]
              refine wpR_pure (i := 17) (oi := _) (v := ?_) rfl (by kernel_rfl) (by kernel_rfl) (by kernel_rfl) (by kernel_rfl) (by kernel_rfl) (by kernel_rfl) hHeld (Or.inl ⟨by rfl, ?_⟩) ?_
              rotate_left
              · (intro w hSw; go_simp; first | done | (with_reducible rfl))
              simp only [Act.put, List.getElem_toArray, List.getElem_cons_succ, List.getElem_cons_zero, List.setIfInBounds_toArray, List.set_cons_zero, List.set_cons_succ]
              refine wpR_pure (i := 18) (oi := _) (v := ?_) rfl (by kernel_rfl) (by kernel_rfl) (by kernel_rfl) (by kernel_rfl) (by kernel_rfl) (by kernel_rfl) hHeld (Or.inl ⟨by rfl, ?_⟩) ?_
              rotate_left
              · (intro w hSw; go_simp; first | done | (with_reducible rfl))
              simp only [Act.put, List.getElem_toArray, List.getElem_cons_succ, List.getElem_cons_zero, List.setIfInBounds_toArray, List.set_cons_zero, List.set_cons_succ]
              refine wpR_pure (i := 19) (oi := _) (v := ?_) rfl (by kernel_rfl) (by kernel_rfl) (by kernel_rfl) (by kernel_rfl) (by kernel_rfl) (by kernel_rfl) hHeld (Or.inl ⟨by rfl, ?_⟩) ?_
              rotate_left
              · (intro w hSw; obtain ⟨q0, q1⟩ := HXI.out w hSw; go_simp; first | done | (with_reducible rfl))
              simp only [Act.put, List.getElem_toArray, List.getElem_cons_succ, List.getElem_cons_zero, List.setIfInBounds_toArray, List.set_cons_zero, List.set_cons_succ]
              refine wpR_pure (i := 20) (oi := _) (v := ?_) rfl (by kernel_rfl) (by kernel_rfl) (by kernel_rfl) (by kernel_rfl) (by kernel_rfl) (by kernel_rfl) hHeld (Or.inl ⟨by rfl, ?_⟩) ?_
              rotate_left
              · (intro w hSw; go_simp; first | done | (with_reducible rfl))
              simp only [Act.put, List.getElem_toArray, List.getElem_cons_succ, List.getElem_cons_zero, List.setIfInBounds_toArray, List.set_cons_zero, List.set_cons_succ]
              refine wpR_pure (i := 21) (oi := _) (v := ?_) rfl (by kernel_rfl) (by kernel_rfl) (by kernel_rfl) (by kernel_rfl) (by kernel_rfl) (by kernel_rfl) hHeld (Or.inl ⟨by rfl, ?_⟩) ?_
              rotate_left
              · (intro w hSw; have q0 := (HVB.out w hSw).cellv 15 _ rfl; go_simp; first | done | (with_reducible rfl))
              simp only [Act.put, List.getElem_toArray, List.getElem_cons_succ, List.getElem_cons_zero, List.setIfInBounds_toArray, List.set_cons_zero, List.set_cons_succ]
              refine wpR_pure (i := 22) (oi := _) (v := ?_) rfl (by kernel_rfl) (by kernel_rfl) (by kernel_rfl) (by kernel_rfl) (by kernel_rfl) (by kernel_rfl) hHeld (Or.inl ⟨by rfl, ?_⟩) ?_
              rotate_left
              · (intro w hSw; go_simp; first | done | (with_reducible rfl))
              simp only [Act.put, List.getElem_toArray, List.getElem_cons_succ, List.getElem_cons_zero, List.setIfInBounds_toArray, List.set_cons_zero, List.set_cons_succ]
              refine wpR_pure (i := 23) (oi := _) (v := ?_) rfl (by kernel_rfl) (by kernel_rfl) (by kernel_rfl) (by kernel_rfl) (by kernel_rfl) (by kernel_rfl) hHeld (Or.inl ⟨by rfl, ?_⟩) ?_
              rotate_left
              · (intro w hSw; go_simp; first | done | (with_reducible rfl))
              simp only [Act.put, List.getElem_toArray, List.getElem_cons_succ, List.getElem_cons_zero, List.setIfInBounds_toArray, List.set_cons_zero, List.set_cons_succ]
              refine wpR_pure (i := 24) (oi := _) (v := ?_) rfl (by kernel_rfl) (by kernel_rfl) (by kernel_rfl) (by kernel_rfl) (by kernel_rfl) (by kernel_rfl) hHeld (Or.inl ⟨by rfl, ?_⟩) ?_
              rotate_left
              · (intro w hSw; go_simp; first | done | (with_reducible rfl))
              simp only [Act.put, List.getElem_toArray, List.getElem_cons_succ, List.getElem_cons_zero, List.setIfInBounds_toArray, List.set_cons_zero, List.set_cons_succ]
              refine wpR_pure (i := 25) (oi := _) (v := ?_) rfl (by kernel_rfl) (by kernel_rfl) (by kernel_rfl) (by kernel_rfl) (by kernel_rfl) (by kernel_rfl) hHeld (Or.inl ⟨by rfl, ?_⟩) ?_
              rotate_left
              · (intro w hSw; obtain ⟨q0, q1⟩ := HXK.out w hSw; go_simp; first | done | (with_reducible rfl))
              simp only [Act.put, List.getElem_toArray, List.getElem_cons_succ, List.getElem_cons_zero, List.setIfInBounds_toArray, List.set_cons_zero, List.set_cons_succ]
              refine wpR_pure (i := 26) (oi := _) (v := ?_) rfl (by kernel_rfl) (by kernel_rfl) (by kernel_rfl) (by kernel_rfl) (by kernel_rfl) (by kernel_rfl) hHeld (Or.inl ⟨by rfl, ?_⟩) ?_
              rotate_left
              · (intro w hSw; go_simp; first | done | (with_reducible rfl))
              simp only [Act.put, List.getElem_toArray, List.getElem_cons_succ, List.getElem_cons_zero, List.setIfInBounds_toArray, List.set_cons_zero, List.set_cons_succ]
              refine wpR_pure (i := 27) (oi := _) (v := ?_) rfl (by kernel_rfl) (by kernel_rfl) (by kernel_rfl) (by kernel_rfl) (by kernel_rfl) (by kernel_rfl) hHeld (Or.inl ⟨by rfl, ?_⟩) ?_
              rotate_left
              · (intro w hSw; go_simp; first | done | (with_reducible rfl))
              simp only [Act.put, List.getElem_toArray, List.getElem_cons_succ, List.getElem_cons_zero, List.setIfInBounds_toArray, List.set_cons_zero, List.set_cons_succ]
              refine wpR_end (by kernel_rfl) (fun w hSw => ?_)
              refine any_done (by kernel_rfl) ?_ _
              go_wp2_with fail
              go_ret
              exact ⟨rfl, HS.out.1.trans hSw⟩
            · have d2 : (s.i == x.i) = false := by simp [e2]
              have E2 := Keep.mk e2
              clear e2
              go_wp2_with fail
              refine region_R (fun w => wr.grownBy w none) [] [] (fun i v => False) 0 28 (by kernel_rfl) (by rfl) (gr_drew _ _) (fun hHeld => ?_)
              refine wpR_pure (i := 0) (oi := _) (v := ?_) rfl (by kernel_rfl) (by kernel_rfl) (by kernel_rfl) (by kernel_rfl) (by kernel_rfl) (by kernel_rfl) hHeld (Or.inl ⟨by rfl, ?_⟩) ?_
              rotate_left
              · (intro w hSw; go_simp; first | done | (with_reducible rfl))
              simp only [Act.put, List.getElem_toArray, List.getElem_cons_zero, List.setIfInBounds_toArray, List.set_cons_zero, List.set_cons_succ]
              refine wpR_pure (i := 1) (oi := _) (v := ?_) rfl (by kernel_rfl) (by kernel_rfl) (by kernel_rfl) (by kernel_rfl) (by kernel_rfl) (by kernel_rfl) hHeld (Or.inl ⟨by rfl, ?_⟩) ?_
              rotate_left
              · (intro w hSw; have q0 := (HVB.out w hSw).cellv 15 _ rfl; go_simp; first | done | (with_reducible rfl))
              simp only [Act.put, List.getElem_toArray, List.getElem_cons_succ, List.getElem_cons_zero, List.setIfInBounds_toArray, List.set_cons_zero, List.set_cons_succ]
              refine wpR_pure (i := 2) (oi := _) (v := ?_) rfl (by kernel_rfl) (by kernel_rfl) (by kernel_rfl) (by kernel_rfl) (by kernel_rfl) (by kernel_rfl) hHeld (Or.inl ⟨by rfl, ?_⟩) ?_
              rotate_left
              · (intro w hSw; go_simp; first | done | (with_reducible rfl))
              simp only [Act.put, List.getElem_toArray, List.getElem_cons_succ, List.getElem_cons_zero, List.setIfInBounds_toArray, List.set_cons_zero, List.set_cons_succ]
              refine wpR_pure (i := 3) (oi := _) (v := ?_) rfl (by kernel_rfl) (by kernel_rfl) (by kernel_rfl) (by kernel_rfl) (by kernel_rfl) (by kernel_rfl) hHeld (Or.inl ⟨by rfl, ?_⟩) ?_
              rotate_left
              · (intro w hSw; go_simp; first | done | (with_reducible rfl))
              simp only [Act.put, List.getElem_toArray, List.getElem_cons_succ, List.getElem_cons_zero, List.setIfInBounds_toArray, List.set_cons_zero, List.set_cons_succ]
              refine wpR_pure (i := 4) (oi := _) (v := ?_) rfl (by kernel_rfl) (by kernel_rfl) (by kernel_rfl) (by kernel_rfl) (by kernel_rfl) (by kernel_rfl) hHeld (Or.inl ⟨by rfl, ?_⟩) ?_
              rotate_left
              · (intro w hSw; go_simp; first | done | (with_reducible rfl))
              simp only [Act.put, List.getElem_toArray, List.getElem_cons_succ, List.getElem_cons_zero, List.setIfInBounds_toArray, List.set_cons_zero, List.set_cons_succ]
              refine wpR_pure (i := 5) (oi := _) (v := ?_) rfl (by kernel_rfl) (by kernel_rfl) (by kernel_rfl) (by kernel_rfl) (by kernel_rfl) (by kernel_rfl) hHeld (Or.inl ⟨by rfl, ?_⟩) ?_
              rotate_left
              · (intro w hSw; obtain ⟨q0, q1⟩ := HXI.out w hSw; go_simp; first | done | (with_reducible rfl))
              simp only [Act.put, List.getElem_toArray, List.getElem_cons_succ, List.getElem_cons_zero, List.setIfInBounds_toArray, List.set_cons_zero, List.set_cons_succ]
              refine wpR_pure (i := 6) (oi := _) (v := ?_) rfl (by kernel_rfl) (by kernel_rfl) (by kernel_rfl) (by kernel_rfl) (by kernel_rfl) (by kernel_rfl) hHeld (Or.inl ⟨by rfl, ?_⟩) ?_
              rotate_left
              · (intro w hSw; go_simp; first | done | (with_reducible rfl))
              simp only [Act.put, List.getElem_toArray, List.getElem_cons_succ, List.getElem_cons_zero, List.setIfInBounds_toArray, List.set_cons_zero, List.set_cons_succ]
              refine wpR_pure (i := 7) (oi := _) (v := ?_) rfl (by kernel_rfl) (by kernel_rfl) (by kernel_rfl) (by kernel_rfl) (by kernel_rfl) (by kernel_rfl) hHeld (Or.inl ⟨by rfl, ?_⟩) ?_
              rotate_left
              · (intro w hSw; have q0 := (HVB.out w hSw).cellv 15 _ rfl; go_simp; first | done | (with_reducible rfl))
              simp only [Act.put, List.getElem_toArray, List.getElem_cons_succ, List.getElem_cons_zero, List.setIfInBounds_toArray, List.set_cons_zero, List.set_cons_succ]
              refine wpR_pure (i := 8) (oi := _) (v := ?_) rfl (by kernel_rfl) (by kernel_rfl) (by kernel_rfl) (by kernel_rfl) (by kernel_rfl) (by kernel_rfl) hHeld (Or.inl ⟨by rfl, ?_⟩) ?_
              rotate_left
              · (intro w hSw; go_simp; first | done | (with_reducible rfl))
              simp only [Act.put, List.getElem_toArray, List.getElem_cons_succ, List.getElem_cons_zero, List.setIfInBounds_toArray, List.set_cons_zero, List.set_cons_succ]
              refine wpR_pure (i := 9) (oi := _) (v := ?_) rfl (by kernel_rfl) (by kernel_rfl) (by kernel_rfl) (by kernel_rfl) (by kernel_rfl) (by kernel_rfl) hHeld (Or.inl ⟨by rfl, ?_⟩) ?_
              rotate_left
              · (intro w hSw; go_simp; first | done | (with_reducible rfl))
              simp only [Act.put, List.getElem_toArray, List.getElem_cons_succ, List.getElem_cons_zero, List.setIfInBounds_toArray, List.set_cons_zero, List.set_cons_succ]
              refine wpR_pure (i := 10) (oi := _) (v := ?_) rfl (by kernel_rfl) (by kernel_rfl) (by kernel_rfl) (by kernel_rfl) (by kernel_rfl) (by kernel_rfl) hHeld (Or.inl ⟨by rfl, ?_⟩) ?_
              rotate_left
              · (intro w hSw; go_simp; first | done | (with_reducible rfl))
              simp only [Act.put, List.getElem_toArray, List.getElem_cons_succ, List.getElem_cons_zero, List.setIfInBounds_toArray, List.set_cons_zero, List.set_cons_succ]
              refine wpR_pure (i := 11) (oi := _) (v := ?_) rfl (by kernel_rfl) (by kernel_rfl) (by kernel_rfl) (by kernel_rfl) (by kernel_rfl) (by kernel_rfl) hHeld (Or.inl ⟨by rfl, ?_⟩) ?_
              rotate_left
              · (intro w hSw; obtain ⟨q0, q1⟩ := HXK.out w hSw; go_simp; first | done | (with_reducible rfl))
              simp only [Act.put, List.getElem_toArray, List.getElem_cons_succ, List.getElem_cons_zero, List.setIfInBounds_toArray, List.set_cons_zero, List.set_cons_succ]
              refine wpR_pure (i := 12) (oi := _) (v := ?_) rfl (by kernel_rfl) (by kernel_rfl) (by kernel_rfl) (by kernel_rfl) (by kernel_rfl) (by kernel_rfl) hHeld (Or.inl ⟨by rfl, ?_⟩) ?_
              rotate_left
              · (intro w hSw; go_simp; first | done | (with_reducible rfl))
              simp only [Act.put, List.getElem_toArray, List.getElem_cons_succ, List.getElem_cons_zero, List.setIfInBounds_toArray, List.set_cons_zero, List.set_cons_succ]
              refine wpR_pure (i := 13) (oi := _) (v := ?_) rfl (by kernel_rfl) (by kernel_rfl) (by kernel_rfl) (by kernel_rfl) (by kernel_rfl) (by kernel_rfl) hHeld (Or.inl ⟨by rfl, ?_⟩) ?_
              rotate_left
              · (intro w hSw; go_simp; first | done | (with_reducible rfl))
              simp only [Act.put, List.getElem_toArray, List.getElem_cons_succ, List.getElem_cons_zero, List.setIfInBounds_toArray, List.set_cons_zero, List.set_cons_succ]
              refine wpR_pure (i := 14) (oi := _) (v := ?_) rfl (by kernel_rfl) (by kernel_rfl) (by kernel_rfl) (by kernel_rfl) (by kernel_rfl) (by kernel_rfl) hHeld (Or.inl ⟨by rfl, ?_⟩) ?_
              rotate_left
              · (intro w hSw; go_simp; first | done | (with_reducible rfl))
              simp only [Act.put, List.getElem_toArray, List.getElem_cons_succ, List.getElem_cons_zero, List.setIfInBounds_toArray, List.set_cons_zero, List.set_cons_succ]
              refine wpR_pure (i := 15) (oi := _) (v := ?_) rfl (by kernel_rfl) (by kernel_rfl) (by kernel_rfl) (by kernel_rfl) (by kernel_rfl) (by kernel_rfl) hHeld (Or.inl ⟨by rfl, ?_⟩) ?_
              rotate_left
              · (intro w hSw; have q0 := (HVB.out w hSw).cellv 15 _ rfl; go_simp; first | done | (with_reducible rfl))
              simp only [Act.put, List.getElem_toArray, List.getElem_cons_succ, List.getElem_cons_zero, List.setIfInBounds_toArray, List.set_cons_zero, List.set_cons_succ]
              refine wpR_pure (i := 16) (oi := _) (v := ?_) rfl (by kernel_rfl) (by kernel_rfl) (by kernel_rfl) (by kernel_rfl) (by kernel_rfl) (by kernel_rfl) hHeld (Or.inl ⟨by rfl, ?_⟩) ?_
              rotate_left
              · (intro w hSw; go_simp; first | done | (with_reducible rfl))
              simp only [Act.put, List.getElem_toArray, List.getElem_cons_succ, List.getElem_cons_zero, List.setIfInBounds_toArray, List.set_cons_zero, List.set_cons_succ]
              refine wpR_pure (i := 17) (oi := _) (v := ?_) rfl (by kernel_rfl) (by kernel_rfl) (by kernel_rfl) (by kernel_rfl) (by kernel_rfl) (by kernel_rfl) hHeld (Or.inl ⟨by rfl, ?_⟩) ?_
              rotate_left
              · (intro w hSw; go_simp; first | done | (with_reducible rfl))
              simp only [Act.put, List.getElem_toArray, List.getElem_cons_succ, List.getElem_cons_zero, List.setIfInBounds_toArray, List.set_cons_zero, List.set_cons_succ]
              refine wpR_pure (i := 18) (oi := _) (v := ?_) rfl (by kernel_rfl) (by kernel_rfl) (by kernel_rfl) (by kernel_rfl) (by kernel_rfl) (by kernel_rfl) hHeld (Or.inl ⟨by rfl, ?_⟩) ?_
              rotate_left
              · (intro w hSw; go_simp; first | done | (with_reducible rfl))
              simp only [Act.put, List.getElem_toArray, List.getElem_cons_succ, List.getElem_cons_zero, List.setIfInBounds_toArray, List.set_cons_zero, List.set_cons_succ]
              refine wpR_pure (i := 19) (oi := _) (v := ?_) rfl (by kernel_rfl) (by kernel_rfl) (by kernel_rfl) (by kernel_rfl) (by kernel_rfl) (by kernel_rfl) hHeld (Or.inl ⟨by rfl, ?_⟩) ?_
              rotate_left
              · (intro w hSw; obtain ⟨q0, q1⟩ := HXI.out w hSw; go_simp; first | done | (with_reducible rfl))
              simp only [Act.put, List.getElem_toArray, List.getElem_cons_succ, List.getElem_cons_zero, List.setIfInBounds_toArray, List.set_cons_zero, List.set_cons_succ]
              refine wpR_pure (i := 20) (oi := _) (v := ?_) rfl (by kernel_rfl) (by kernel_rfl) (by kernel_rfl) (by kernel_rfl) (by kernel_rfl) (by kernel_rfl) hHeld (Or.inl ⟨by rfl, ?_⟩) ?_
              rotate_left
              · (intro w hSw; go_simp; first | done | (with_reducible rfl))
              simp only [Act.put, List.getElem_toArray, List.getElem_cons_succ, List.getElem_cons_zero, List.setIfInBounds_toArray, List.set_cons_zero, List.set_cons_succ]
              refine wpR_pure (i := 21) (oi := _) (v := ?_) rfl (by kernel_rfl) (by kernel_rfl) (by kernel_rfl) (by kernel_rfl) (by kernel_rfl) (by kernel_rfl) hHeld (Or.inl ⟨by rfl, ?_⟩) ?_
              rotate_left
              · (intro w hSw; have q0 := (HVB.out w hSw).cellv 15 _ rfl; go_simp; first | done | (with_reducible rfl))
              simp only [Act.put, List.getElem_toArray, List.getElem_cons_succ, List.getElem_cons_zero, List.setIfInBounds_toArray, List.set_cons_zero, List.set_cons_succ]
              refine wpR_pure (i := 22) (oi := _) (v := ?_) rfl (by kernel_rfl) (by kernel_rfl) (by kernel_rfl) (by kernel_rfl) (by kernel_rfl) (by kernel_rfl) hHeld (Or.inl ⟨by rfl, ?_⟩) ?_
              rotate_left
              · (intro w hSw; go_simp; first | done | (with_reducible rfl))
              simp only [Act.put, List.getElem_toArray, List.getElem_cons_succ, List.getElem_cons_zero, List.setIfInBounds_toArray, List.set_cons_zero, List.set_cons_succ]
              refine wpR_pure (i := 23) (oi := _) (v := ?_) rfl (by kernel_rfl) (by kernel_rfl) (by kernel_rfl) (by kernel_rfl) (by kernel_rfl) (by kernel_rfl) hHeld (Or.inl ⟨by rfl, ?_⟩) ?_
              rotate_left
              · (intro w hSw; go_simp; first | done | (with_reducible rfl))
              simp only [Act.put, List.getElem_toArray, List.getElem_cons_succ, List.getElem_cons_zero, List.setIfInBounds_toArray, List.set_cons_zero, List.set_cons_succ]
              refine wpR_pure (i := 24) (oi := _) (v := ?_) rfl (by kernel_rfl) (by kernel_rfl) (by kernel_rfl) (by kernel_rfl) (by kernel_rfl) (by kernel_rfl) hHeld (Or.inl ⟨by rfl, ?_⟩) ?_
              rotate_left
              · (intro w hSw; go_simp; first | done | (with_reducible rfl))
              simp only [Act.put, List.getElem_toArray, List.getElem_cons_succ, List.getElem_cons_zero, List.setIfInBounds_toArray, List.set_cons_zero, List.set_cons_succ]
              refine wpR_pure (i := 25) (oi := _) (v := ?_) rfl (by kernel_rfl) (by kernel_rfl) (by kernel_rfl) (by kernel_rfl) (by kernel_rfl) (by kernel_rfl) hHeld (Or.inl ⟨by rfl, ?_⟩) ?_
              rotate_left
              · (intro w hSw; obtain ⟨q0, q1⟩ := HXK.out w hSw; go_simp; first | done | (with_reducible rfl))
              simp only [Act.put, List.getElem_toArray, List.getElem_cons_succ, List.getElem_cons_zero, List.setIfInBounds_toArray, List.set_cons_zero, List.set_cons_succ]
              refine wpR_pure (i := 26) (oi := _) (v := ?_) rfl (by kernel_rfl) (by kernel_rfl) (by kernel_rfl) (by kernel_rfl) (by kernel_rfl) (by kernel_rfl) hHeld (Or.inl ⟨by rfl, ?_⟩) ?_
              rotate_left
              · (intro w hSw; go_simp; first | done | (with_reducible rfl))
              simp only [Act.put, List.getElem_toArray, List.getElem_cons_succ, List.getElem_cons_zero, List.setIfInBounds_toArray, List.set_cons_zero, List.set_cons_succ]
              refine wpR_pure (i := 27) (oi := _) (v := ?_) rfl (by kernel_rfl) (by kernel_rfl) (by kernel_rfl) (by kernel_rfl) (by kernel_rfl) (by kernel_rfl) hHeld (Or.inl ⟨by rfl, ?_⟩) ?_
              rotate_left
              · (intro w hSw; go_simp; first | done | (with_reducible rfl))
              simp only [Act.put, List.getElem_toArray, List.getElem_cons_succ, List.getElem_cons_zero, List.setIfInBounds_toArray, List.set_cons_zero, List.set_cons_succ]
              refine wpR_end (by kernel_rfl) (fun w hSw => ?_)
              refine any_done (by kernel_rfl) ?_ _
              have HE2 : Keep (∀ p y, p < k + 1 → L[p]? = some y → ¬ (s.k = y.k ∧ s.i = y.i)) := ⟨fun p y hp hy => by
                by_cases e : p = k
                · subst e
                  rw [HXX.out] at hy
                  cases hy
                  exact fun q => E2.out q.2
                · exact HE.out p y (by omega) hy⟩
              have HS2 := Keep.mk (HS.out.grown hSw)
              clear HE hSw HS hHeld
              go_wp2_with fail
              go_roundw
              case rel => exact ⟨k + 1, by omega, rfl, HE2, HS2⟩
              case measure => simp [intOf]; omega
          · have d1 : (s.k == x.k) = false := by simp [e1]
            have E1 := Keep.mk e1
            clear e1
            go_wp2_with fail
            refine region_R (fun w => wr.grownBy w none) [] [] (fun i v => False) 0 28 (by kernel_rfl) (by rfl) (gr_drew _ _) (fun hHeld => ?_)
            refine wpR_pure (i := 0) (oi := _) (v := ?_) rfl (by kernel_rfl) (by kernel_rfl) (by kernel_rfl) (by kernel_rfl) (by kernel_rfl) (by kernel_rfl) hHeld (Or.inl ⟨by rfl, ?_⟩) ?_
            rotate_left
            · (intro w hSw; go_simp; first | done | (with_reducible rfl))
            simp only [Act.put, List.getElem_toArray, List.getElem_cons_zero, List.setIfInBounds_toArray, List.set_cons_zero, List.set_cons_succ]
            refine wpR_pure (i := 1) (oi := _) (v := ?_) rfl (by kernel_rfl) (by kernel_rfl) (by kernel_rfl) (by kernel_rfl) (by kernel_rfl) (by kernel_rfl) hHeld (Or.inl ⟨by rfl, ?_⟩) ?_
            rotate_left
            · (intro w hSw; have q0 := (HVB.out w hSw).cellv 15 _ rfl; go_simp; first | done | (with_reducible rfl))
            simp only [Act.put, List.getElem_toArray, List.getElem_cons_succ, List.getElem_cons_zero, List.setIfInBounds_toArray, List.set_cons_zero, List.set_cons_succ]
            refine wpR_pure (i := 2) (oi := _) (v := ?_) rfl (by kernel_rfl) (by kernel_rfl) (by kernel_rfl) (by kernel_rfl) (by kernel_rfl) (by kernel_rfl) hHeld (Or.inl ⟨by rfl, ?_⟩) ?_
            rotate_left
            · (intro w hSw; go_simp; first | done | (with_reducible rfl))
            simp only [Act.put, List.getElem_toArray, List.getElem_cons_succ, List.getElem_cons_zero, List.setIfInBounds_toArray, List.set_cons_zero, List.set_cons_succ]
            refine wpR_pure (i := 3) (oi := _) (v := ?_) rfl (by kernel_rfl) (by kernel_rfl) (by kernel_rfl) (by kernel_rfl) (by kernel_rfl) (by kernel_rfl) hHeld (Or.inl ⟨by rfl, ?_⟩) ?_
            rotate_left
            · (intro w hSw; go_simp; first | done | (with_reducible rfl))
            simp only [Act.put, List.getElem_toArray, List.getElem_cons_succ, List.getElem_cons_zero, List.setIfInBounds_toArray, List.set_cons_zero, List.set_cons_succ]
            refine wpR_pure (i := 4) (oi := _) (v := ?_) rfl (by kernel_rfl) (by kernel_rfl) (by kernel_rfl) (by kernel_rfl) (by kernel_rfl) (by kernel_rfl) hHeld (Or.inl ⟨by rfl, ?_⟩) ?_
            rotate_left
            · (intro w hSw; go_simp; first | done | (with_reducible rfl))
            simp only [Act.put, List.getElem_toArray, List.getElem_cons_succ, List.getElem_cons_zero, List.setIfInBounds_toArray, List.set_cons_zero, List.set_cons_succ]
            refine wpR_pure (i := 5) (oi := _) (v := ?_) rfl (by kernel_rfl) (by kernel_rfl) (by kernel_rfl) (by kernel_rfl) (by kernel_rfl) (by kernel_rfl) hHeld (Or.inl ⟨by rfl, ?_⟩) ?_
            rotate_left
            · (intro w hSw; obtain ⟨q0, q1⟩ := HXI.out w hSw; go_simp; first | done | (with_reducible rfl))
            simp only [Act.put, List.getElem_toArray, List.getElem_cons_succ, List.getElem_cons_zero, List.setIfInBounds_toArray, List.set_cons_zero, List.set_cons_succ]
            refine wpR_pure (i := 6) (oi := _) (v := ?_) rfl (by kernel_rfl) (by kernel_rfl) (by kernel_rfl) (by kernel_rfl) (by kernel_rfl) (by kernel_rfl) hHeld (Or.inl ⟨by rfl, ?_⟩) ?_
            rotate_left
            · (intro w hSw; go_simp; first | done | (with_reducible rfl))
            simp only [Act.put, List.getElem_toArray, List.getElem_cons_succ, List.getElem_cons_zero, List.setIfInBounds_toArray, List.set_cons_zero, List.set_cons_succ]
            refine wpR_pure (i := 7) (oi := _) (v := ?_) rfl (by kernel_rfl) (by kernel_rfl) (by kernel_rfl) (by kernel_rfl) (by kernel_rfl) (by kernel_rfl) hHeld (Or.inl ⟨by rfl, ?_⟩) ?_
            rotate_left
            · (intro w hSw; have q0 := (HVB.out w hSw).cellv 15 _ rfl; go_simp; first | done | (with_reducible rfl))
            simp only [Act.put, List.getElem_toArray, List.getElem_cons_succ, List.getElem_cons_zero, List.setIfInBounds_toArray, List.set_cons_zero, List.set_cons_succ]
            refine wpR_pure (i := 8) (oi := _) (v := ?_) rfl (by kernel_rfl) (by kernel_rfl) (by kernel_rfl) (by kernel_rfl) (by kernel_rfl) (by kernel_rfl) hHeld (Or.inl ⟨by rfl, ?_⟩) ?_
            rotate_left
            · (intro w hSw; go_simp; first | done | (with_reducible rfl))
            simp only [Act.put, List.getElem_toArray, List.getElem_cons_succ, List.getElem_cons_zero, List.setIfInBounds_toArray, List.set_cons_zero, List.set_cons_succ]
            refine wpR_pure (i := 9) (oi := _) (v := ?_) rfl (by kernel_rfl) (by kernel_rfl) (by kernel_rfl) (by kernel_rfl) (by kernel_rfl) (by kernel_rfl) hHeld (Or.inl ⟨by rfl, ?_⟩) ?_
            rotate_left
            · (intro w hSw; go_simp; first | done | (with_reducible rfl))
            simp only [Act.put, List.getElem_toArray, List.getElem_cons_succ, List.getElem_cons_zero, List.setIfInBounds_toArray, List.set_cons_zero, List.set_cons_succ]
            refine wpR_pure (i := 10) (oi := _) (v := ?_) rfl (by kernel_rfl) (by kernel_rfl) (by kernel_rfl) (by kernel_rfl) (by kernel_rfl) (by kernel_rfl) hHeld (Or.inl ⟨by rfl, ?_⟩) ?_
            rotate_left
            · (intro w hSw; go_simp; first | done | (with_reducible rfl))
            simp only [Act.put, List.getElem_toArray, List.getElem_cons_succ, List.getElem_cons_zero, List.setIfInBounds_toArray, List.set_cons_zero, List.set_cons_succ]
            refine wpR_pure (i := 11) (oi := _) (v := ?_) rfl (by kernel_rfl) (by kernel_rfl) (by kernel_rfl) (by kernel_rfl) (by kernel_rfl) (by kernel_rfl) hHeld (Or.inl ⟨by rfl, ?_⟩) ?_
            rotate_left
            · (intro w hSw; obtain ⟨q0, q1⟩ := HXK.out w hSw; go_simp; first | done | (with_reducible rfl))
            simp only [Act.put, List.getElem_toArray, List.getElem_cons_succ, List.getElem_cons_zero, List.setIfInBounds_toArray, List.set_cons_zero, List.set_cons_succ]
            refine wpR_pure (i := 12) (oi := _) (v := ?_) rfl (by kernel_rfl) (by kernel_rfl) (by kernel_rfl) (by kernel_rfl) (by kernel_rfl) (by kernel_rfl) hHeld (Or.inl ⟨by rfl, ?_⟩) ?_
            rotate_left
            · (intro w hSw; go_simp; first | done | (with_reducible rfl))
            simp only [Act.put, List.getElem_toArray, List.getElem_cons_succ, List.getElem_cons_zero, List.setIfInBounds_toArray, List.set_cons_zero, List.set_cons_succ]
            refine wpR_pure (i := 13) (oi := _) (v := ?_) rfl (by kernel_rfl) (by kernel_rfl) (by kernel_rfl) (by kernel_rfl) (by kernel_rfl) (by kernel_rfl) hHeld (Or.inl ⟨by rfl, ?_⟩) ?_
            rotate_left
            · (intro w hSw; go_simp; first | done | (with_reducible rfl))
            simp only [Act.put, List.getElem_toArray, List.getElem_cons_succ, List.getElem_cons_zero, List.setIfInBounds_toArray, List.set_cons_zero, List.set_cons_succ]
            refine wpR_pure (i := 14) (oi := _) (v := undef) rfl (by kernel_rfl) (by kernel_rfl) (by kernel_rfl) (by kernel_rfl) (by kernel_rfl) (by kernel_rfl) hHeld (Or.inr ⟨by rfl, rfl⟩) ?_
            simp only [Act.put, List.getElem_toArray, List.getElem_cons_succ, List.getElem_cons_zero, List.setIfInBounds_toArray, List.set_cons_zero, List.set_cons_succ]
            refine wpR_pure (i := 15) (oi := _) (v := undef) rfl (by kernel_rfl) (by kernel_rfl) (by kernel_rfl) (by kernel_rfl) (by kernel_rfl) (by kernel_rfl) hHeld (Or.inr ⟨by rfl, rfl⟩) ?_
            simp only [Act.put, List.getElem_toArray, List.getElem_cons_succ, List.getElem_cons_zero, List.setIfInBounds_toArray, List.set_cons_zero, List.set_cons_succ]
            refine wpR_pure (i := 16) (oi := _) (v := undef) rfl (by kernel_rfl) (by kernel_rfl) (by kernel_rfl) (by kernel_rfl) (by kernel_rfl) (by kernel_rfl) hHeld (Or.inr ⟨by rfl, rfl⟩) ?_
            simp only [Act.put, List.getElem_toArray, List.getElem_cons_succ, List.getElem_cons_zero, List.setIfInBounds_toArray, List.set_cons_zero, List.set_cons_succ]
            refine wpR_pure (i := 17) (oi := _) (v := undef) rfl (by kernel_rfl) (by kernel_rfl) (by kernel_rfl) (by kernel_rfl) (by kernel_rfl) (by kernel_rfl) hHeld (Or.inr ⟨by rfl, rfl⟩) ?_
            simp only [Act.put, List.getElem_toArray, List.getElem_cons_succ, List.getElem_cons_zero, List.setIfInBounds_toArray, List.set_cons_zero, List.set_cons_succ]
            refine wpR_pure (i := 18) (oi := _) (v := undef) rfl (by kernel_rfl) (by kernel_rfl) (by kernel_rfl) (by kernel_rfl) (by kernel_rfl) (by kernel_rfl) hHeld (Or.inr ⟨by rfl, rfl⟩) ?_
            simp only [Act.put, List.getElem_toArray, List.getElem_cons_succ, List.getElem_cons_zero, List.setIfInBounds_toArray, List.set_cons_zero, List.set_cons_succ]
            refine wpR_pure (i := 19) (oi := _) (v := undef) rfl (by kernel_rfl) (by kernel_rfl) (by kernel_rfl) (by kernel_rfl) (by kernel_rfl) (by kernel_rfl) hHeld (Or.inr ⟨by rfl, rfl⟩) ?_
            simp only [Act.put, List.getElem_toArray, List.getElem_cons_succ, List.getElem_cons_zero, List.setIfInBounds_toArray, List.set_cons_zero, List.set_cons_succ]
            refine wpR_pure (i := 20) (oi := _) (v := undef) rfl (by kernel_rfl) (by kernel_rfl) (by kernel_rfl) (by kernel_rfl) (by kernel_rfl) (by kernel_rfl) hHeld (Or.inr ⟨by rfl, rfl⟩) ?_
            simp only [Act.put, List.getElem_toArray, List.getElem_cons_succ, List.getElem_cons_zero, List.setIfInBounds_toArray, List.set_cons_zero, List.set_cons_succ]
            refine wpR_pure (i := 21) (oi := _) (v := undef) rfl (by kernel_rfl) (by kernel_rfl) (by kernel_rfl) (by kernel_rfl) (by kernel_rfl) (by kernel_rfl) hHeld (Or.inr ⟨by rfl, rfl⟩) ?_
            simp only [Act.put, List.getElem_toArray, List.getElem_cons_succ, List.getElem_cons_zero, List.setIfInBounds_toArray, List.set_cons_zero, List.set_cons_succ]
            refine wpR_pure (i := 22) (oi := _) (v := undef) rfl (by kernel_rfl) (by kernel_rfl) (by kernel_rfl) (by kernel_rfl) (by kernel_rfl) (by kernel_rfl) hHeld (Or.inr ⟨by rfl, rfl⟩) ?_
            simp only [Act.put, List.getElem_toArray, List.getElem_cons_succ, List.getElem_cons_zero, List.setIfInBounds_toArray, List.set_cons_zero, List.set_cons_succ]
            refine wpR_pure (i := 23) (oi := _) (v := undef) rfl (by kernel_rfl) (by kernel_rfl) (by kernel_rfl) (by kernel_rfl) (by kernel_rfl) (by kernel_rfl) hHeld (Or.inr ⟨by rfl, rfl⟩) ?_
            simp only [Act.put, List.getElem_toArray, List.getElem_cons_succ, List.getElem_cons_zero, List.setIfInBounds_toArray, List.set_cons_zero, List.set_cons_succ]
            refine wpR_pure (i := 24) (oi := _) (v := undef) rfl (by kernel_rfl) (by kernel_rfl) (by kernel_rfl) (by kernel_rfl) (by kernel_rfl) (by kernel_rfl) hHeld (Or.inr ⟨by rfl, rfl⟩) ?_
            simp only [Act.put, List.getElem_toArray, List.getElem_cons_succ, List.getElem_cons_zero, List.setIfInBounds_toArray, List.set_cons_zero, List.set_cons_succ]
            refine wpR_pure (i := 25) (oi := _) (v := undef) rfl (by kernel_rfl) (by kernel_rfl) (by kernel_rfl) (by kernel_rfl) (by kernel_rfl) (by kernel_rfl) hHeld (Or.inr ⟨by rfl, rfl⟩) ?_
            simp only [Act.put, List.getElem_toArray, List.getElem_cons_succ, List.getElem_cons_zero, List.setIfInBounds_toArray, List.set_cons_zero, List.set_cons_succ]
            refine wpR_pure (i := 26) (oi := _) (v := undef) rfl (by kernel_rfl) (by kernel_rfl) (by kernel_rfl) (by kernel_rfl) (by kernel_rfl) (by kernel_rfl) hHeld (Or.inr ⟨by rfl, rfl⟩) ?_
            simp only [Act.put, List.getElem_toArray, List.getElem_cons_succ, List.getElem_cons_zero, List.setIfInBounds_toArray, List.set_cons_zero, List.set_cons_succ]
            refine wpR_pure (i := 27) (oi := _) (v := ?_) rfl (by kernel_rfl) (by kernel_rfl) (by kernel_rfl) (by kernel_rfl) (by kernel_rfl) (by kernel_rfl) hHeld (Or.inl ⟨by rfl, ?_⟩) ?_
            rotate_left
            · (intro w hSw; go_simp; first | done | (with_reducible rfl))
            simp only [Act.put, List.getElem_toArray, List.getElem_cons_succ, List.getElem_cons_zero, List.setIfInBounds_toArray, List.set_cons_zero, List.set_cons_succ]
            refine wpR_end (by kernel_rfl) (fun w hSw => ?_)
            refine any_done (by kernel_rfl) ?_ _
            have HE2 : Keep (∀ p y, p < k + 1 → L[p]? = some y → ¬ (s.k = y.k ∧ s.i = y.i)) := ⟨fun p y hp hy => by
              by_cases e : p = k
              · subst e
                rw [HXX.out] at hy
                cases hy
                exact fun q => E1.out q.1
              · exact HE.out p y (by omega) hy⟩
            have HS2 := Keep.mk (HS.out.grown hSw)
            clear HE hSw HS hHeld
            go_wp2_with fail
            go_roundw
            case rel => exact ⟨k + 1, by omega, rfl, HE2, HS2⟩
            case measure => simp [intOf]; omega
        · have hk1 : ¬ (k : Int) < (i : Nat) := by omega
          have hki : k = i := by omega
          have HD2 : Keep (Nd L (i + 1)) := ⟨fun p q x y h1 h2 hx hy => by
            by_cases e : q = i
            · subst e
              rw [HI.out] at hy
              cases hy
              exact HE.out p x (by omega) hx
            · exact HD.out p q x y h1 (by omega) hx hy⟩
          clear hki HE
          go_wp2_with fail
          go_roundw
          case rel => exact ⟨i + 1, by omega, rfl, HD2, HS⟩
          case measure => simp [intOf]; omega
    · have hi1 : ¬ (i : Int) < (n : Nat) := by omega
      have hin : i = n := by omega
      rw [hin] at HD
      clear hin
      have HR := Keep.mk ((HS.out.boxGet k0m).range)
      obtain ⟨du9, hdu9, hdr9⟩ := und29
      go_wp2_with (first
        | (show wpList _ _ _ ({ dst := some 53, op := Op.load 29 (Operand.tmp 2), type := _, pos := _, after := _, guard := _ } :: _) _ _; refine load_g (by rfl) 29 (.tmp 2) rfl xb 0 rfl (vwL tk c (.slice aa n cap)) du9 (HR.out) hdu9 hdr9 info29 ?_)
        | (show wpList _ _ _ ({ dst := some 54, op := Op.load 29 (Operand.tmp 2), type := _, pos := _, after := _, guard := _ } :: _) _ _; refine load_g (by rfl) 29 (.tmp 2) rfl xb 0 rfl (vwL tk c (.slice aa n cap)) du9 (HR.out) hdu9 hdr9 info29 ?_))
      clear lV HR
      have hnB : L.length ≤ 281474976710656 := by rw [HN.out]; omega
      refine (between_c wr tk tk c c _ _ L L t (HRA.out.1.kept HS.out.1) (HRA.out.1.kept HS.out.1) HRA.out.2.1 HRA.out.2.1 (by rw [HN.out]; exact hn) hnB).mono ?_
      rintro e W3 ⟨v, P, rfl, hP, S3⟩
      clear hnB
      have hnd : Nd L L.length := by rw [HN.out]; exact HD.out
      unfold betV at hP
      rw [fm_self hnd] at hP
      clear hnd HD
      obtain ⟨n1, hn1⟩ : ∃ n1 : Nat, (if 0 < c.wt then 0 else 1) = n1 := ⟨_, rfl⟩
      have HOL : Keep ((ownV c c (V t)).length = n1) := ⟨by
        rw [← hn1]
        unfold ownV
        by_cases hw : 0 < c.wt <;> simp [hw]⟩
      have hn1b : n1 ≤ 1 := by rw [← hn1]; split <;> omega
      obtain ⟨pn, hpn⟩ : ∃ m, P.length = m := ⟨_, rfl⟩
      have HPN : Keep (pn = n1 + n) := ⟨by
        have := congrArg List.length hP
        rw [List.length_map, List.length_append, List.length_map, HOL.out, HN.out, hpn] at this
        exact this⟩
      have HPI : Keep (∀ j s, L[j]? = some s → ∃ p, P[n1 + j]? = some p ∧ vP p = mixV (ofS s) (ofS s) (V t)) := ⟨fun j s hs => by
        have q : (P.map vP)[n1 + j]? = some (mixV (ofS s) (ofS s) (V t)) := by
          rw [hP, List.getElem?_append_right (by rw [HOL.out]; omega), HOL.out, show n1 + j - n1 = j by omega, List.getElem?_map, hs]
          rfl
        rw [List.getElem?_map] at q
        cases hp : P[n1 + j]? with
        | none => rw [hp] at q; cases q
        | some p => rw [hp] at q; exact ⟨p, rfl, Option.some.inj q⟩⟩
      have HPO : Keep (¬ 0 < c.wt → ∃ p, P[0]? = some p ∧ vP p = mixV (ofV c.x c.y c.h) (ofV c.x c.y c.h) (V t)) := ⟨fun hw => by
        have e : ownV c c (V t) = [mixV (ofV c.x c.y c.h) (ofV c.x c.y c.h) (V t)] := by unfold ownV; simp [hw]
        have q : (P.map vP)[0]? = some (mixV (ofV c.x c.y c.h) (ofV c.x c.y c.h) (V t)) := by
          rw [hP, e]; rfl
        rw [List.getElem?_map] at q
        cases hp : P[0]? with
        | none => rw [hp] at q; cases q
        | some p => rw [hp] at q; exact ⟨p, rfl, Option.some.inj q⟩⟩
      have HN1 : Keep ((if 0 < c.wt then 0 else 1) = n1) := ⟨hn1⟩
      obtain ⟨ra, rc, rfl⟩ := own_slice (S3.rowGet k0m)
      have HRG : Keep (0 < pn → ∃ g, ra = some ⟨g, 0, none⟩) := ⟨fun h => by
        obtain ⟨g, c', e, _⟩ := own_any (S3.rowGet k0m) (by rw [hpn]; exact h)
        injection e with e _ _
        exact ⟨g, e⟩⟩
      have HS3 : Keep (Sep w0 W3 [rowV 37 3 (.slice ra pn rc) pn (pls P), boxA xb (vwL tk c (.slice aa n cap)) 29]) := ⟨by rw [← hpn]; exact Sep.merge HS.out S3⟩
      rw [hpn]
      clear S3 HS hP hpn hn1 HOL
      have lw := (HS3.out.boxGet k1m).cellv 12 _ rfl
      go_upto_if 60 with fail
      clear lw
      go_cut [8] (fun sv wx => ∃ u, u = wx ∧ sv = iv n1 ∧ Keep (Sep w0 u [rowV 37 3 (.slice ra pn rc) pn (pls P), boxA xb (vwL tk c (.slice aa n cap)) 29]))
      case first =>
        by_cases hw : c.wt ≤ 0
        · have hw2 : ¬ 0 < c.wt := by omega
          have d : decide (c.wt ≤ 0) = true := decide_eq_true hw
          have E1 : Keep (n1 = 1) := ⟨by rw [← HN1.out, if_neg hw2]⟩
          have hpn0 : 0 < pn := by rw [HPN.out, E1.out]; omega
          obtain ⟨g, rfl⟩ := HRG.out hpn0
          obtain ⟨p, hp0, hvp⟩ := HPO.out hw
          have HPP := Keep.mk (And.intro hp0 hvp)
          have HCE : Keep (∀ w, W3.grownBy w none → w.cell? ⟨g, 0, none⟩ = some (fv p.x) ∧ w.cell? ⟨g, 1, none⟩ = some (fv p.y) ∧ w.cell? ⟨g, 2, none⟩ = some (fv p.a)) := ⟨fun w h => by
            have := row_cells ((HS3.out.grown h).rowGet k0m) hpn0 HPP.out.1
            simpa using this⟩
          have d3 : decide (pn < 1) = false := decide_eq_false (by omega)
          have d4 : decide ((pn : Int) < 1) = false := decide_eq_false (by omega)
          have d5 : (0 : Int) < (pn : Nat) := by omega
          rw [d]
          clear hp0 hvp hw hw2 d
          go_wp2_with fail
          refine region_R (fun w => W3.grownBy w none) [] [13] (fun i v => if i = 13 then (fun v => PV v (ofV c.x c.y c.h)) v else False) 0 16 (by kernel_rfl) (by rfl) (gr_drew _ _) (fun hHeld => ?_)
          refine wpR_pure (i := 0) (oi := _) (v := ?_) rfl (by kernel_rfl) (by kernel_rfl) (by kernel_rfl) (by kernel_rfl) (by kernel_rfl) (by kernel_rfl) hHeld (Or.inl ⟨by rfl, ?_⟩) ?_
          rotate_left
          · (intro w hSw; go_simp; first | done | (with_reducible rfl))
          simp only [Act.put, List.getElem_toArray, List.getElem_cons_zero, List.setIfInBounds_toArray, List.set_cons_zero, List.set_cons_succ]
          refine wpR_pure (i := 1) (oi := _) (v := ?_) rfl (by kernel_rfl) (by kernel_rfl) (by kernel_rfl) (by kernel_rfl) (by kernel_rfl) (by kernel_rfl) hHeld (Or.inl ⟨by rfl, ?_⟩) ?_
          rotate_left
          · (intro w hSw; go_simp; first | done | (with_reducible rfl))
          simp only [Act.put, List.getElem_toArray, List.getElem_cons_succ, List.getElem_cons_zero, List.setIfInBounds_toArray, List.set_cons_zero, List.set_cons_succ]
          refine wpR_pure (i := 2) (oi := _) (v := ?_) rfl (by kernel_rfl) (by kernel_rfl) (by kernel_rfl) (by kernel_rfl) (by kernel_rfl) (by kernel_rfl) hHeld (Or.inl ⟨by rfl, ?_⟩) ?_
          rotate_left
          · (intro w hSw; go_simp; first | done | (with_reducible rfl))
          simp only [Act.put, List.getElem_toArray, List.getElem_cons_succ, List.getElem_cons_zero, List.setIfInBounds_toArray, List.set_cons_zero, List.set_cons_succ]
          refine wpR_pure (i := 3) (oi := _) (v := ?_) rfl (by kernel_rfl) (by kernel_rfl) (by kernel_rfl) (by kernel_rfl) (by kernel_rfl) (by kernel_rfl) hHeld (Or.inl ⟨by rfl, ?_⟩) ?_
          rotate_left
          · (intro w hSw; go_simp; first | done | (with_reducible rfl))
          simp only [Act.put, List.getElem_toArray, List.getElem_cons_succ, List.getElem_cons_zero, List.setIfInBounds_toArray, List.set_cons_zero, List.set_cons_succ]
          refine wpR_pure (i := 4) (oi := _) (v := ?_) rfl (by kernel_rfl) (by kernel_rfl) (by kernel_rfl) (by kernel_rfl) (by kernel_rfl) (by kernel_rfl) hHeld (Or.inl ⟨by rfl, ?_⟩) ?_
          rotate_left
          · (intro w hSw; go_simp; first | done | (with_reducible rfl))
          simp only [Act.put, List.getElem_toArray, List.getElem_cons_succ, List.getElem_cons_zero, List.setIfInBounds_toArray, List.set_cons_zero, List.set_cons_succ]
          refine wpR_pure (i := 5) (oi := _) (v := ?_) rfl (by kernel_rfl) (by kernel_rfl) (by kernel_rfl) (by kernel_rfl) (by kernel_rfl) (by kernel_rfl) hHeld (Or.inl ⟨by rfl, ?_⟩) ?_
          rotate_left
          · (intro w hSw; go_simp; first | done | (with_reducible rfl))
          simp only [Act.put, List.getElem_toArray, List.getElem_cons_succ, List.getElem_cons_zero, List.setIfInBounds_toArray, List.set_cons_zero, List.set_cons_succ]
          refine wpR_pure (i := 6) (oi := _) (v := ?_) rfl (by kernel_rfl) (by kernel_rfl) (by kernel_rfl) (by kernel_rfl) (by kernel_rfl) (by kernel_rfl) hHeld (Or.inl ⟨by rfl, ?_⟩) ?_
          rotate_left
          · (intro w hSw; obtain ⟨q0, q1, q2⟩ := HCE.out w hSw; go_simp; first | done | (with_reducible rfl))
          simp only [Act.put, List.getElem_toArray, List.getElem_cons_succ, List.getElem_cons_zero, List.setIfInBounds_toArray, List.set_cons_zero, List.set_cons_succ]
          refine wpR_pure (i := 7) (oi := _) (v := ?_) rfl (by kernel_rfl) (by kernel_rfl) (by kernel_rfl) (by kernel_rfl) (by kernel_rfl) (by kernel_rfl) hHeld (Or.inl ⟨by rfl, ?_⟩) ?_
          rotate_left
          · (intro w hSw; go_simp; first | done | (with_reducible rfl))
          simp only [Act.put, List.getElem_toArray, List.getElem_cons_succ, List.getElem_cons_zero, List.setIfInBounds_toArray, List.set_cons_zero, List.set_cons_succ]
          refine wpR_pure (i := 8) (oi := _) (v := ?_) rfl (by kernel_rfl) (by kernel_rfl) (by kernel_rfl) (by kernel_rfl) (by kernel_rfl) (by kernel_rfl) hHeld (Or.inl ⟨by rfl, ?_⟩) ?_
          rotate_left
          · (intro w hSw; go_simp; first | done | (with_reducible rfl))
          simp only [Act.put, List.getElem_toArray, List.getElem_cons_succ, List.getElem_cons_zero, List.setIfInBounds_toArray, List.set_cons_zero, List.set_cons_succ]
          refine wpR_pure (i := 9) (oi := _) (v := ?_) rfl (by kernel_rfl) (by kernel_rfl) (by kernel_rfl) (by kernel_rfl) (by kernel_rfl) (by kernel_rfl) hHeld (Or.inl ⟨by rfl, ?_⟩) ?_
          rotate_left
          · (intro w hSw; have q0 := ((HS3.out.grown hSw).boxGet k1m).cellv 3 _ rfl; have q1 := ((HS3.out.grown hSw).boxGet k1m).cellv 4 _ rfl; go_simp; first | done | (with_reducible rfl))
          simp only [Act.put, List.getElem_toArray, List.getElem_cons_succ, List.getElem_cons_zero, List.setIfInBounds_toArray, List.set_cons_zero, List.set_cons_succ]
          refine wpR_pure (i := 10) (oi := _) (v := ?_) rfl (by kernel_rfl) (by kernel_rfl) (by kernel_rfl) (by kernel_rfl) (by kernel_rfl) (by kernel_rfl) hHeld (Or.inl ⟨by rfl, ?_⟩) ?_
          rotate_left
          · (intro w hSw; go_simp; first | done | (with_reducible rfl))
          simp only [Act.put, List.getElem_toArray, List.getElem_cons_succ, List.getElem_cons_zero, List.setIfInBounds_toArray, List.set_cons_zero, List.set_cons_succ]
          refine wpR_pure (i := 11) (oi := _) (v := ?_) rfl (by kernel_rfl) (by kernel_rfl) (by kernel_rfl) (by kernel_rfl) (by kernel_rfl) (by kernel_rfl) hHeld (Or.inl ⟨by rfl, ?_⟩) ?_
          rotate_left
          · (intro w hSw; go_simp; first | done | (with_reducible rfl))
          simp only [Act.put, List.getElem_toArray, List.getElem_cons_succ, List.getElem_cons_zero, List.setIfInBounds_toArray, List.set_cons_zero, List.set_cons_succ]
          refine wpR_pure (i := 12) (oi := _) (v := ?_) rfl (by kernel_rfl) (by kernel_rfl) (by kernel_rfl) (by kernel_rfl) (by kernel_rfl) (by kernel_rfl) hHeld (Or.inl ⟨by rfl, ?_⟩) ?_
          rotate_left
          · (intro w hSw; have q0 := ((HS3.out.grown hSw).boxGet k1m).cellv 7 _ rfl; go_simp; first | done | (with_reducible rfl))
          simp only [Act.put, List.getElem_toArray, List.getElem_cons_succ, List.getElem_cons_zero, List.setIfInBounds_toArray, List.set_cons_zero, List.set_cons_succ]
          refine wpR_some (i := 13) (oi := _) rfl (by kernel_rfl) (by kernel_rfl) (by kernel_rfl) (by kernel_rfl) (by kernel_rfl) (by kernel_rfl) hHeld (fun v => PV v (ofV c.x c.y c.h)) rfl (of_ex c.x c.y c.h w0) ⟨by rfl, ?_⟩ ?_
          · refine .inr ⟨11, #[.agg #[iv c.x, iv c.y], iv c.h], fun w => ?_, fun w hSw => ?_⟩
            · (go_simp; first | done | (with_reducible rfl))
            refine (of_c c.x c.y c.h w).mono ?_
            rintro e w' ⟨v, rfl, hv, g⟩
            exact ⟨v, rfl, hv, World.grownBy.trans hSw g⟩
          rintro v ⟨o1, o2, o3, rfl, e1, e2, e3⟩
          have SH : Keep (eqF p.x o1 = true ∧ eqF p.y o2 = true ∧ eqF p.a o3 = true) := ⟨and3 (shown_eq (p := ⟨o1, o2, o3⟩) HRA.out.2.2.2.1 HRA.out.2.2.2.2 HPP.out.2 (by unfold vP; simp only [e1, e2, e3]))⟩
          clear e1 e2 e3
          simp only [Act.put, List.getElem_toArray, List.getElem_cons_succ, List.getElem_cons_zero, List.setIfInBounds_toArray, List.set_cons_zero, List.set_cons_succ]
          refine wpR_pure (i := 14) (oi := _) (v := .bool false) rfl (by kernel_rfl) (by kernel_rfl) (by kernel_rfl) (by kernel_rfl) (by kernel_rfl) (by kernel_rfl) hHeld (Or.inl ⟨by rfl, ?_⟩) ?_
          · (intro w hSw; obtain ⟨s1, s2, s3⟩ := SH.out; have f1 := eqT s1; have f2 := eqT s2; have f3 := eqT s3; go_simp; first | done | (simp; done))
          simp only [Act.put, List.getElem_toArray, List.getElem_cons_succ, List.getElem_cons_zero, List.setIfInBounds_toArray, List.set_cons_zero, List.set_cons_succ]
          refine wpR_pure (i := 15) (oi := _) (v := ?_) rfl (by kernel_rfl) (by kernel_rfl) (by kernel_rfl) (by kernel_rfl) (by kernel_rfl) (by kernel_rfl) hHeld (Or.inl ⟨by rfl, ?_⟩) ?_
          rotate_left
          · (intro w hSw; go_simp; first | done | (with_reducible rfl))
          simp only [Act.put, List.getElem_toArray, List.getElem_cons_succ, List.getElem_cons_zero, List.setIfInBounds_toArray, List.set_cons_zero, List.set_cons_succ]
          refine wpR_end (by kernel_rfl) (fun w hSw => ?_)
          refine any_done (by kernel_rfl) ?_ _
          go_wp2_with fail
          go_meet
          exact ⟨_, rfl, by rw [E1.out]; rfl, ⟨HS3.out.grown hSw⟩⟩
        · have d : decide (c.wt ≤ 0) = false := decide_eq_false hw
          have E1 : Keep (n1 = 0) := ⟨by rw [← HN1.out, if_pos (by omega)]⟩
          rw [d]
          clear hw d
          go_wp2_with fail
          go_meet
          exact ⟨_, rfl, by rw [E1.out]; rfl, HS3⟩
      case rest =>
      clear HS3 HPO HN1
      obtain ⟨W4, rfl, rfl, HS⟩ := hcut
      have lV := (HS.out.boxGet k1m).cellv 15 _ rfl
      have hwn : IntKind.i64.wrap ((n1 : Int) + (n : Int)) = (pn : Int) := by rw [wi _ (by omega) (by omega), HPN.out]; omega
      have HRC := Keep.mk ((HS.out.boxGet k1m).rangeMid 1 [.int .u64 tk] (crv c) [.slice aa n cap] rfl rfl)
      obtain ⟨du, hdu, hdr⟩ := row26
      have HBV := Keep.mk (builtV c.p c.n c.x c.y c.u c.v c.h c.he c.en c.am c.co c.wt c.sp c.sc)
      have HS5 : Keep (Sep w0 (W4.alloc (.cells (vwA 0 c (.slice none 0 0)) 29)) (boxA W4.heap.size (vwL 0 c (.slice none 0 0)) 29 :: [rowV 37 3 (.slice ra pn rc) pn (pls P), boxA xb (vwL tk c (.slice aa n cap)) 29])) := ⟨HS.out.newBox (vwA 0 c (.slice none 0 0)) 29⟩
      obtain ⟨pp, hpp⟩ : ∃ pp, IntKind.i64.wrap (c.p + 1) = pp := ⟨_, rfl⟩
      have HNE : Keep (c.p ≠ pp) := ⟨by
        have hb := HRA.out.2.2.1
        unfold I64 at hb
        rw [← hpp, IntKind.wrap_i64]
        omega⟩
      clear HS
      go_upto_region 20 with (first
        | (show wpList _ _ _ ({ dst := some 86, op := Op.load 26 (Operand.tmp 85), type := _, pos := _, after := _, guard := _ } :: _) _ _; refine load_g (by rfl) 26 (.tmp 85) rfl xb 1 rfl (crv c) du HRC.out hdu hdr info26 ?_)
        | (with_reducible show wpList _ _ _ ({ dst := some 87, op := Op.build 29 _, type := _, pos := _, after := _, guard := _ } :: _) _ _
           refine wpList_build rfl 29 _ rfl (vwA 0 c (.slice none 0 0)) ((congrArg (Try.prog.built 29) (by first | (simp only [List.map_toArray, List.map_cons, List.map_nil, Act.eval]; done) | (simp only [List.map_toArray, List.map_cons, List.map_nil, Act.eval]; with_reducible rfl) | (simp only [List.map_toArray, List.map_cons, List.map_nil, Act.eval]; rfl))).trans HBV.out) ?_
           simp only [Act.put, List.setIfInBounds_toArray, List.set_cons_zero, List.set_cons_succ]))
      clear HRC HBV hdu hdr
      obtain ⟨wb, hwb⟩ : ∃ b, W4.heap.size = b := ⟨_, rfl⟩
      have HWB := Keep.mk (gr_alloc W4 (.cells (vwA 0 c (.slice none 0 0)) 29) none)
      have lV2 := (HS5.out.boxGet k2m).cellv 15 _ rfl
      rw [hwb] at HS5
      try rw [hwb]
      clear hwb lV
      generalize W4.alloc (.cells (vwA 0 c (.slice none 0 0)) 29) = W5 at HS5 lV2 ⊢
      have l1 := (HS5.out.boxGet k0m).cellv 1 _ rfl
      have f1 := (HS5.out.boxGet k0m).frozen 1
      have HS6 := Keep.mk (HS5.out.boxPut 1 (iv pp))
      have HS6 : Keep (Sep w0 (W5.setCell ⟨wb, 1, none⟩ (iv pp)) [boxA wb (vwL 0 { c with p := pp } (.slice none 0 0)) 29, rowV 37 3 (.slice ra pn rc) pn (pls P), boxA xb (vwL tk c (.slice aa n cap)) 29]) := HS6
      clear HS5 HWB
      go_wp2_with fail
      clear l1 f1 lV2 hpp
      generalize W5.setCell ⟨wb, 1, none⟩ (iv pp) = W6 at HS6 ⊢
      go_loopw [10] (fun u wr => ∃ j : Nat, j ≤ n ∧ u = iv j ∧ Keep (Sep w0 wr [boxA wb (vwL 0 { c with p := pp } (.slice none 0 0)) 29, rowV 37 3 (.slice ra pn rc) pn (pls P), boxA xb (vwL tk c (.slice aa n cap)) 29])) (fun u _ => (n - intOf u).toNat)
      case atStart => exact ⟨0, by omega, rfl, HS6⟩
      case round =>
        clear HS6
        obtain ⟨j, hj, rfl, HS⟩ := hrel
        have lV := (HS.out.boxGet k2m).cellv 15 _ rfl
        by_cases hlj : j < n
        · obtain ⟨s, hs⟩ : ∃ s, L[j]? = some s := ⟨_, List.getElem?_eq_getElem (by rw [HN.out]; exact hlj)⟩
          have hpn0 : 0 < pn := by rw [HPN.out]; omega
          obtain ⟨g, rfl⟩ := HRG.out hpn0
          obtain ⟨gg, o, hga, hc⟩ := HA.out (by omega)
          obtain ⟨p, hp0, hvp⟩ := HPI.out j s hs
          have HPP := Keep.mk (And.intro hp0 hvp)
          have HSO := Keep.mk (HRA.out.2.1 s (List.mem_of_getElem? hs))
          obtain ⟨q, hq⟩ : ∃ q, n1 + j = q := ⟨_, rfl⟩
          have HQ : Keep (P[q]? = some p) := ⟨by rw [← hq]; exact hp0⟩
          have HCE : Keep (∀ w, wr.grownBy w none → w.cell? ⟨g, q * 3, none⟩ = some (fv p.x) ∧ w.cell? ⟨g, q * 3 + 1, none⟩ = some (fv p.y) ∧ w.cell? ⟨g, q * 3 + 2, none⟩ = some (fv p.a)) := ⟨fun w h => row_cells ((HS.out.grown h).rowGet k1m) hpn0 HQ.out⟩
          have HXS : Keep (∀ w, wr.grownBy w none → w.cell? ⟨gg, o + j * 5 + 2, none⟩ = some (iv s.x) ∧ w.cell? ⟨gg, o + j * 5 + 3, none⟩ = some (iv s.y) ∧ w.cell? ⟨gg, o + j * 5 + 4, none⟩ = some (iv s.h)) := ⟨fun w h => by
            have q := sn_cells (range_kept (hc j s hs) (HS.out.1.trans h))
            exact ⟨q.2.2.1, q.2.2.2.1, q.2.2.2.2⟩⟩
          have hj0 : (0 : Int) ≤ (j : Int) := by omega
          have hj1 : (j : Int) < (n : Nat) := by omega
          have htj : ((j : Nat) : Int).toNat = j := by omega
          have hwj : IntKind.i64.wrap ((j : Int) + 1) = ((j + 1 : Nat) : Int) := by rw [wi _ (by omega) (by omega)]; omega
          have hq0 : (0 : Int) ≤ (q : Int) := by omega
          have hqn : q < pn := by rw [HPN.out]; omega
          have hq1 : (q : Int) < (pn : Nat) := by omega
          have htq : ((q : Nat) : Int).toNat = q := by omega
          have hwq : IntKind.i64.wrap ((n1 : Int) + (j : Int)) = (q : Int) := by rw [wi _ (by omega) (by omega)]; omega
          have HVB : Keep (∀ w, wr.grownBy w none → Has w xb (vwL tk c (.slice (some ⟨gg, o, none⟩) n cap)) 29) := ⟨fun w h => by
            have := (HS.out.grown h).boxGet k2m
            rw [hga] at this
            exact this⟩
          rw [hga] at lV
          clear hs hc hp0 hvp hq hqn hga
          go_wp2_with fail
          clear lV
          refine region_R (fun w => wr.grownBy w none) [] [18] (fun i v => if i = 18 then (fun v => PV v (ofV s.x s.y s.h)) v else False) 0 20 (by kernel_rfl) (by rfl) (gr_drew _ _) (fun hHeld => ?_)
          refine wpR_pure (i := 0) (oi := _) (v := ?_) rfl (by kernel_rfl) (by kernel_rfl) (by kernel_rfl) (by kernel_rfl) (by kernel_rfl) (by kernel_rfl) hHeld (Or.inl ⟨by rfl, ?_⟩) ?_
          rotate_left
          · (intro w hSw; go_simp; first | done | (with_reducible rfl))
          simp only [Act.put, List.getElem_toArray, List.getElem_cons_zero, List.setIfInBounds_toArray, List.set_cons_zero, List.set_cons_succ]
          refine wpR_pure (i := 1) (oi := _) (v := ?_) rfl (by kernel_rfl) (by kernel_rfl) (by kernel_rfl) (by kernel_rfl) (by kernel_rfl) (by kernel_rfl) hHeld (Or.inl ⟨by rfl, ?_⟩) ?_
          rotate_left
          · (intro w hSw; go_simp; first | done | (with_reducible rfl))
          simp only [Act.put, List.getElem_toArray, List.getElem_cons_succ, List.getElem_cons_zero, List.setIfInBounds_toArray, List.set_cons_zero, List.set_cons_succ]
          refine wpR_pure (i := 2) (oi := _) (v := ?_) rfl (by kernel_rfl) (by kernel_rfl) (by kernel_rfl) (by kernel_rfl) (by kernel_rfl) (by kernel_rfl) hHeld (Or.inl ⟨by rfl, ?_⟩) ?_
          rotate_left
          · (intro w hSw; go_simp; first | done | (with_reducible rfl))
          simp only [Act.put, List.getElem_toArray, List.getElem_cons_succ, List.getElem_cons_zero, List.setIfInBounds_toArray, List.set_cons_zero, List.set_cons_succ]
          refine wpR_pure (i := 3) (oi := _) (v := ?_) rfl (by kernel_rfl) (by kernel_rfl) (by kernel_rfl) (by kernel_rfl) (by kernel_rfl) (by kernel_rfl) hHeld (Or.inl ⟨by rfl, ?_⟩) ?_
          rotate_left
          · (intro w hSw; go_simp; first | done | (with_reducible rfl))
          simp only [Act.put, List.getElem_toArray, List.getElem_cons_succ, List.getElem_cons_zero, List.setIfInBounds_toArray, List.set_cons_zero, List.set_cons_succ]
          refine wpR_pure (i := 4) (oi := _) (v := ?_) rfl (by kernel_rfl) (by kernel_rfl) (by kernel_rfl) (by kernel_rfl) (by kernel_rfl) (by kernel_rfl) hHeld (Or.inl ⟨by rfl, ?_⟩) ?_
          rotate_left
          · (intro w hSw; go_simp; first | done | (with_reducible rfl))
          simp only [Act.put, List.getElem_toArray, List.getElem_cons_succ, List.getElem_cons_zero, List.setIfInBounds_toArray, List.set_cons_zero, List.set_cons_succ]
          refine wpR_pure (i := 5) (oi := _) (v := ?_) rfl (by kernel_rfl) (by kernel_rfl) (by kernel_rfl) (by kernel_rfl) (by kernel_rfl) (by kernel_rfl) hHeld (Or.inl ⟨by rfl, ?_⟩) ?_
          rotate_left
          · (intro w hSw; obtain ⟨q0, q1, q2⟩ := HCE.out w hSw; go_simp; first | done | (with_reducible rfl))
          simp only [Act.put, List.getElem_toArray, List.getElem_cons_succ, List.getElem_cons_zero, List.setIfInBounds_toArray, List.set_cons_zero, List.set_cons_succ]
          refine wpR_pure (i := 6) (oi := _) (v := ?_) rfl (by kernel_rfl) (by kernel_rfl) (by kernel_rfl) (by kernel_rfl) (by kernel_rfl) (by kernel_rfl) hHeld (Or.inl ⟨by rfl, ?_⟩) ?_
          rotate_left
          · (intro w hSw; go_simp; first | done | (with_reducible rfl))
          simp only [Act.put, List.getElem_toArray, List.getElem_cons_succ, List.getElem_cons_zero, List.setIfInBounds_toArray, List.set_cons_zero, List.set_cons_succ]
          refine wpR_pure (i := 7) (oi := _) (v := ?_) rfl (by kernel_rfl) (by kernel_rfl) (by kernel_rfl) (by kernel_rfl) (by kernel_rfl) (by kernel_rfl) hHeld (Or.inl ⟨by rfl, ?_⟩) ?_
          rotate_left
          · (intro w hSw; have q0 := (HVB.out w hSw).cellv 15 _ rfl; go_simp; first | done | (with_reducible rfl))
          simp only [Act.put, List.getElem_toArray, List.getElem_cons_succ, List.getElem_cons_zero, List.setIfInBounds_toArray, List.set_cons_zero, List.set_cons_succ]
          refine wpR_pure (i := 8) (oi := _) (v := ?_) rfl (by kernel_rfl) (by kernel_rfl) (by kernel_rfl) (by kernel_rfl) (by kernel_rfl) (by kernel_rfl) hHeld (Or.inl ⟨by rfl, ?_⟩) ?_
          rotate_left
          · (intro w hSw; go_simp; first | done | (with_reducible rfl))
          simp only [Act.put, List.getElem_toArray, List.getElem_cons_succ, List.getElem_cons_zero, List.setIfInBounds_toArray, List.set_cons_zero, List.set_cons_succ]
          refine wpR_pure (i := 9) (oi := _) (v := ?_) rfl (by kernel_rfl) (by kernel_rfl) (by kernel_rfl) (by kernel_rfl) (by kernel_rfl) (by kernel_rfl) hHeld (Or.inl ⟨by rfl, ?_⟩) ?_
          rotate_left
          · (intro w hSw; go_simp; first | done | (with_reducible rfl))
          simp only [Act.put, List.getElem_toArray, List.getElem_cons_succ, List.getElem_cons_zero, List.setIfInBounds_toArray, List.set_cons_zero, List.set_cons_succ]
          refine wpR_pure (i := 10) (oi := _) (v := ?_) rfl (by kernel_rfl) (by kernel_rfl) (by kernel_rfl) (by kernel_rfl) (by kernel_rfl) (by kernel_rfl) hHeld (Or.inl ⟨by rfl, ?_⟩) ?_
          rotate_left
          · (intro w hSw; go_simp; first | done | (with_reducible rfl))
          simp only [Act.put, List.getElem_toArray, List.getElem_cons_succ, List.getElem_cons_zero, List.setIfInBounds_toArray, List.set_cons_zero, List.set_cons_succ]
          refine wpR_pure (i := 11) (oi := _) (v := ?_) rfl (by kernel_rfl) (by kernel_rfl) (by kernel_rfl) (by kernel_rfl) (by kernel_rfl) (by kernel_rfl) hHeld (Or.inl ⟨by rfl, ?_⟩) ?_
          rotate_left
          · (intro w hSw; obtain ⟨q0, q1, q2⟩ := HXS.out w hSw; go_simp; first | done | (with_reducible rfl))
          simp only [Act.put, List.getElem_toArray, List.getElem_cons_succ, List.getElem_cons_zero, List.setIfInBounds_toArray, List.set_cons_zero, List.set_cons_succ]
          refine wpR_pure (i := 12) (oi := _) (v := ?_) rfl (by kernel_rfl) (by kernel_rfl) (by kernel_rfl) (by kernel_rfl) (by kernel_rfl) (by kernel_rfl) hHeld (Or.inl ⟨by rfl, ?_⟩) ?_
          rotate_left
          · (intro w hSw; go_simp; first | done | (with_reducible rfl))
          simp only [Act.put, List.getElem_toArray, List.getElem_cons_succ, List.getElem_cons_zero, List.setIfInBounds_toArray, List.set_cons_zero, List.set_cons_succ]
          refine wpR_pure (i := 13) (oi := _) (v := ?_) rfl (by kernel_rfl) (by kernel_rfl) (by kernel_rfl) (by kernel_rfl) (by kernel_rfl) (by kernel_rfl) hHeld (Or.inl ⟨by rfl, ?_⟩) ?_
          rotate_left
          · (intro w hSw; have q0 := (HVB.out w hSw).cellv 15 _ rfl; go_simp; first | done | (with_reducible rfl))
          simp only [Act.put, List.getElem_toArray, List.getElem_cons_succ, List.getElem_cons_zero, List.setIfInBounds_toArray, List.set_cons_zero, List.set_cons_succ]
          refine wpR_pure (i := 14) (oi := _) (v := ?_) rfl (by kernel_rfl) (by kernel_rfl) (by kernel_rfl) (by kernel_rfl) (by kernel_rfl) (by kernel_rfl) hHeld (Or.inl ⟨by rfl, ?_⟩) ?_
          rotate_left
          · (intro w hSw; go_simp; first | done | (with_reducible rfl))
          simp only [Act.put, List.getElem_toArray, List.getElem_cons_succ, List.getElem_cons_zero, List.setIfInBounds_toArray, List.set_cons_zero, List.set_cons_succ]
          refine wpR_pure (i := 15) (oi := _) (v := ?_) rfl (by kernel_rfl) (by kernel_rfl) (by kernel_rfl) (by kernel_rfl) (by kernel_rfl) (by kernel_rfl) hHeld (Or.inl ⟨by rfl, ?_⟩) ?_
          rotate_left
          · (intro w hSw; go_simp; first | done | (with_reducible rfl))
          simp only [Act.put, List.getElem_toArray, List.getElem_cons_succ, List.getElem_cons_zero, List.setIfInBounds_toArray, List.set_cons_zero, List.set_cons_succ]
          refine wpR_pure (i := 16) (oi := _) (v := ?_) rfl (by kernel_rfl) (by kernel_rfl) (by kernel_rfl) (by kernel_rfl) (by kernel_rfl) (by kernel_rfl) hHeld (Or.inl ⟨by rfl, ?_⟩) ?_
          rotate_left
          · (intro w hSw; go_simp; first | done | (with_reducible rfl))
          simp only [Act.put, List.getElem_toArray, List.getElem_cons_succ, List.getElem_cons_zero, List.setIfInBounds_toArray, List.set_cons_zero, List.set_cons_succ]
          refine wpR_pure (i := 17) (oi := _) (v := ?_) rfl (by kernel_rfl) (by kernel_rfl) (by kernel_rfl) (by kernel_rfl) (by kernel_rfl) (by kernel_rfl) hHeld (Or.inl ⟨by rfl, ?_⟩) ?_
          rotate_left
          · (intro w hSw; obtain ⟨q0, q1, q2⟩ := HXS.out w hSw; go_simp; first | done | (with_reducible rfl))
          simp only [Act.put, List.getElem_toArray, List.getElem_cons_succ, List.getElem_cons_zero, List.setIfInBounds_toArray, List.set_cons_zero, List.set_cons_succ]
          refine wpR_some (i := 18) (oi := _) rfl (by kernel_rfl) (by kernel_rfl) (by kernel_rfl) (by kernel_rfl) (by kernel_rfl) (by kernel_rfl) hHeld (fun v => PV v (ofV s.x s.y s.h)) rfl (of_ex s.x s.y s.h w0) ⟨by rfl, ?_⟩ ?_
          · refine .inr ⟨11, #[.agg #[iv s.x, iv s.y], iv s.h], fun w => ?_, fun w hSw => ?_⟩
            · (go_simp; first | done | (with_reducible rfl))
            refine (of_c s.x s.y s.h w).mono ?_
            rintro e w' ⟨v, rfl, hv, g⟩
            exact ⟨v, rfl, hv, World.grownBy.trans hSw g⟩
          rintro v ⟨o1, o2, o3, rfl, e1, e2, e3⟩
          have SH : Keep (eqF p.x o1 = true ∧ eqF p.y o2 = true ∧ eqF p.a o3 = true) := ⟨and3 (shown_eq (p := ⟨o1, o2, o3⟩) HSO.out.2.2.1 HSO.out.2.2.2.1 HPP.out.2 (by unfold vP; simp only [e1, e2, e3]))⟩
          clear e1 e2 e3
          simp only [Act.put, List.getElem_toArray, List.getElem_cons_succ, List.getElem_cons_zero, List.setIfInBounds_toArray, List.set_cons_zero, List.set_cons_succ]
          refine wpR_pure (i := 19) (oi := _) (v := .bool false) rfl (by kernel_rfl) (by kernel_rfl) (by kernel_rfl) (by kernel_rfl) (by kernel_rfl) (by kernel_rfl) hHeld (Or.inl ⟨by rfl, ?_⟩) ?_
          · (intro w hSw; obtain ⟨s1, s2, s3⟩ := SH.out; have f1 := eqT s1; have f2 := eqT s2; have f3 := eqT s3; go_simp; first | done | (simp; done))
          simp only [Act.put, List.getElem_toArray, List.getElem_cons_succ, List.getElem_cons_zero, List.setIfInBounds_toArray, List.set_cons_zero, List.set_cons_succ]
          refine wpR_end (by kernel_rfl) (fun w hSw => ?_)
          refine any_done (by kernel_rfl) ?_ _
          have HS2 := Keep.mk (HS.out.grown hSw)
          clear hSw HS hHeld
          go_wp2_with fail
          go_roundw
          case rel => exact ⟨j + 1, by omega, rfl, HS2⟩
          case measure => simp [intOf]; omega
        · have hj1 : ¬ (j : Int) < (n : Nat) := by omega
          have HRX := Keep.mk ((HS.out.boxGet k2m).range)
          have HRW := Keep.mk ((HS.out.boxGet k0m).range)
          clear HPI
          go_wp2_with (first
            | (show wpList _ _ _ ({ dst := some 121, op := Op.load 29 (Operand.tmp 2), type := _, pos := _, after := _, guard := _ } :: _) _ _; refine load_g (by rfl) 29 (.tmp 2) rfl xb 0 rfl (vwL tk c (.slice aa n cap)) du9 (HRX.out) hdu9 hdr9 info29 ?_)
            | (show wpList _ _ _ ({ dst := some 122, op := Op.load 29 (Operand.tmp 9), type := _, pos := _, after := _, guard := _ } :: _) _ _; refine load_g (by rfl) 29 (.tmp 9) rfl wb 0 rfl (vwL 0 { c with p := pp } (.slice none 0 0)) du9 (HRW.out) hdu9 hdr9 info29 ?_))
          clear lV HRX HRW
          have hnB : L.length ≤ 281474976710656 := by rw [HN.out]; omega
          refine (between_c wr tk 0 c { c with p := pp } _ _ L [] t (HRA.out.1.kept HS.out.1) (rdS_nil _) HRA.out.2.1 (fun x h => by cases h) (by rw [HN.out]; exact hn) (by simp)).mono ?_
          rintro e W7 ⟨v, P7, rfl, hP7, S7⟩
          have h7 : P7 = [] := by
            have hne : c.p ≠ pp := HNE.out
            have e : P7.map vP = [] := by
              rw [hP7]
              unfold betV ownV
              rw [fm_none]
              simp [hne]
            exact List.map_eq_nil_iff.1 e
          subst h7
          obtain ⟨za, zc, rfl⟩ := own_zero (S7.rowGet k0m)
          have HS7 : Keep (Sep w0 W7 [boxA wb (vwL 0 { c with p := pp } (.slice none 0 0)) 29, rowV 37 3 (.slice ra pn rc) pn (pls P), boxA xb (vwL tk c (.slice aa n cap)) 29]) := ⟨HS.out.grown S7.1⟩
          clear hP7 S7 HS
          have HRX := Keep.mk ((HS7.out.boxGet k2m).range)
          have HRW := Keep.mk ((HS7.out.boxGet k0m).range)
          go_wp2_with (first
            | (show wpList _ _ _ ({ dst := some 128, op := Op.load 29 (Operand.tmp 9), type := _, pos := _, after := _, guard := _ } :: _) _ _; refine load_g (by rfl) 29 (.tmp 9) rfl wb 0 rfl (vwL 0 { c with p := pp } (.slice none 0 0)) du9 (HRW.out) hdu9 hdr9 info29 ?_)
            | (show wpList _ _ _ ({ dst := some 129, op := Op.load 29 (Operand.tmp 2), type := _, pos := _, after := _, guard := _ } :: _) _ _; refine load_g (by rfl) 29 (.tmp 2) rfl xb 0 rfl (vwL tk c (.slice aa n cap)) du9 (HRX.out) hdu9 hdr9 info29 ?_))
          clear HRX HRW
          refine (between_c W7 0 tk { c with p := pp } c _ _ [] L t (rdS_nil _) (HRA.out.1.kept HS7.out.1) (fun x h => by cases h) HRA.out.2.1 (by simp) hnB).mono ?_
          rintro e W8 ⟨v, P8, rfl, hP8, S8⟩
          have h8 : P8 = [] := by
            have hne : ¬ pp = c.p := fun h => HNE.out h.symm
            have e : P8.map vP = [] := by
              rw [hP8]
              unfold betV ownV
              simp [hne]
            exact List.map_eq_nil_iff.1 e
          subst h8
          obtain ⟨ya, yc, rfl⟩ := own_zero (S8.rowGet k0m)
          have HF := Keep.mk (HS7.out.1.trans S8.1)
          clear hP8 S8
          go_wp2_with fail
          go_ret
          exact ⟨rfl, HF.out⟩
end Go.Proofs.Ytfhhneibdmjfgaa
