/- a region that draws its order and whose last operations write what the others read -/
import Derived.Test.YtfhhneibdmjfgaaR1
namespace Go.Proofs.Ytfhhneibdmjfgaa
open Go
section
variable {P : Program} {ops : Array Oper} {Q : Exit → Act → World → Prop} {md : Region.Mode} {S : World → Prop} {Z : List Nat}
/-- whatever order comes; S holds behind every operation but those of Z -/
def wpAnyX (P : Program) (md : Region.Mode) (ops : Array Oper) (Q : Exit → Act → World → Prop) (S : World → Prop) (Z : List Nat) : Nat → Array Bool → Act → World → Prop
  | 0, L, a, w => Region.ready md ops L = [] ∧ Q .normal a w
  | n + 1, L, a, w => (Region.ready md ops L = [] → Q .normal a w) ∧ ∀ i ∈ Region.ready md ops L, wpOp P ops Q i (fun b w' => (Z.contains i = false → S w') ∧ wpAnyX P md ops Q S Z n (L.setIfInBounds i true) b w') a w
set_option maxRecDepth 100000 in
theorem plain_of_X : ∀ (n : Nat) (L : Array Bool) (a : Act) (w : World), wpAnyX P md ops Q S Z n L a w → wpAny P md ops Q n L a w
  | 0, _, _, _, h => h
  | n + 1, _, _, _, h => ⟨h.1, fun i hi => wpOp_mono (fun b w' hb => plain_of_X n _ b w' hb.2) (h.2 i hi)⟩
/-- all of Z wait for it -/
def awaited (md : Region.Mode) (ops : Array Oper) (Z : List Nat) (i : Nat) : Bool :=
  Z.all fun z => match ops[z]? with
    | some o => o.after.any fun e => Region.binds md e && e.on == i
    | none => false
set_option maxRecDepth 100000 in
theorem awaited_spec {i j : Nat} {oj : Oper} (h : awaited md ops Z i = true) (hj : ops[j]? = some oj) (hz : Z.contains j = true) : ∃ e ∈ oj.after, Region.binds md e = true ∧ e.on = i := by
  have h1 := List.all_eq_true.1 h j (by simpa using hz)
  simp only [hj] at h1
  simp only [Array.any_eq_true', Bool.and_eq_true, beq_iff_eq] at h1
  obtain ⟨e, he, h2, h3⟩ := h1
  exact ⟨e, he, h2, h3⟩
set_option maxRecDepth 100000 in
theorem takeX_core {i : Nat} {oi : Oper} {v : Value} (hi : ops[i]? = some oi) (hsel : ∀ (j : Nat) (o : Oper) cs b, ops[j]? = some o → o.op ≠ .select cs b) (hQ : ∀ c a w, Q (.panic c) (a.put oi.dst v) w → Q (.panic c) a w) (hz : awaited md ops Z i = true) (hzi : Z.contains i = false) :
    ∀ (n : Nat) (L : Array Bool) (a : Act) (w : World), (∀ j oj, ops[j]? = some oj → j ≠ i → L.getD j true = false → (∀ e ∈ oj.after, Region.binds md e = true → e.on ≠ i) → oi.apart ops oj = true) →
      i ∈ Region.ready md ops L → YieldsIf P ops S oi v a → S w → wpAnyX P md ops Q S Z n (L.setIfInBounds i true) (a.put oi.dst v) w → wpAnyX P md ops Q S Z (n + 1) L a w
  | n, L, a, w, hfree, hri, hy, hS, H => by
    refine ⟨fun h => (by rw [h] at hri; cases hri), fun j hj => ?_⟩
    by_cases hji : j = i
    · subst hji
      exact hy.wpOp hi hS ⟨fun _ => hS, H⟩
    have hj2 := ready_mono hj hji
    match n, H with
    | 0, H => rw [H.1] at hj2; cases hj2
    | n + 1, H =>
      obtain ⟨hjl, oj, hoj, hedge⟩ := mem_ready.1 hj
      have hno : ∀ e ∈ oj.after, Region.binds md e = true → e.on ≠ i := by
        intro e he hb heq
        have x1 := hedge e he hb
        have x0 := (mem_ready.1 hri).1
        rw [heq] at x1
        by_cases hlt : i < L.size
        · simp [hlt] at x0 x1
          rw [x0] at x1
          cases x1
        · simp [Array.getElem?_eq_none (Nat.le_of_not_lt hlt)] at x1
      have hjz : Z.contains j = false := by
        cases q : Z.contains j
        · rfl
        · obtain ⟨e, he, h2, h3⟩ := awaited_spec hz hoj q
          exact absurd h3 (hno e he h2)
      have x2 := wpOp_putIf hoj (hfree j oj hoj hji hjl hno) (fun cs b => hsel i oi cs b hi) (fun cs b => hsel j oj cs b hoj) hQ hy (H.2 j hj2)
      refine wpOp_mono (fun b w' hb => ⟨fun _ => hb.2.1 hjz, takeX_core hi hsel hQ hz hzi n (L.setIfInBounds j true) b w' ?_ (ready_mono hri (Ne.symm hji)) hb.1 (hb.2.1 hjz) ?_⟩) x2
      · intro k ok hk hki hun hnk
        refine hfree k ok hk hki ?_ hnk
        by_cases hjk : j = k
        · subst hjk; exact hjl
        · rwa [getD_set_ne true hjk] at hun
      · rw [Array.setIfInBounds_comm _ _ hji]
        exact hb.2.2
/-- one that yields in every world of S comes first -/
theorem wpAnyX_take {i : Nat} {oi : Oper} {v : Value} {n : Nat} {L : Array Bool} {a : Act} {w : World} (hi : ops[i]? = some oi) (hs : Region.noSelect ops = true) (hf : Region.free md ops L i = true) (hri : (Region.ready md ops L).contains i = true) (hz : awaited md ops Z i = true) (hzi : Z.contains i = false)
    (hQ : ∀ c a w, Q (.panic c) (a.put oi.dst v) w → Q (.panic c) a w) (hy : YieldsIf P ops S oi v a) (hS : S w) (h : wpAnyX P md ops Q S Z n (L.setIfInBounds i true) (a.put oi.dst v) w) : wpAnyX P md ops Q S Z (n + 1) L a w :=
  takeX_core hi (Region.noSelect_spec hs) hQ hz hzi n L a w (Region.free_spec hi hf) (by simpa using hri) hy hS h
/-- only one may come, and S is shown behind it -/
theorem wpAnyX_one {i : Nat} {o : Oper} {n : Nat} {L : Array Bool} {a : Act} {w : World} (hr : Region.ready md ops L = [i]) (ho : ops[i]? = some o)
    (h : ∀ K' : Act → World → Prop, Shut (∀ a w, S w → (S w → wpAnyX P md ops Q S Z n (L.setIfInBounds i true) a w) → K' a w) → if Region.wanted o (yielded ops a.tmps) = true then Oper.wp P o a w K' Q else K' (a.put o.dst undef) w) : wpAnyX P md ops Q S Z (n + 1) L a w :=
  ⟨fun h0 => (by rw [hr] at h0; cases h0), fun j hj => by
    rw [hr, List.mem_singleton] at hj
    subst hj
    exact wpOp_step ho (fun K' hK => h K' (fun a w hS hW => hK a w ⟨fun _ => hS, hW hS⟩))⟩
/-- only one may come, and it is of Z -/
theorem wpAnyX_late {i : Nat} {o : Oper} {n : Nat} {L : Array Bool} {a : Act} {w : World} (hr : Region.ready md ops L = [i]) (ho : ops[i]? = some o) (hz : Z.contains i = true)
    (h : ∀ K' : Act → World → Prop, Shut (∀ a w, wpAnyX P md ops Q S Z n (L.setIfInBounds i true) a w → K' a w) → if Region.wanted o (yielded ops a.tmps) = true then Oper.wp P o a w K' Q else K' (a.put o.dst undef) w) : wpAnyX P md ops Q S Z (n + 1) L a w :=
  ⟨fun h0 => (by rw [hr] at h0; cases h0), fun j hj => by
    rw [hr, List.mem_singleton] at hj
    subst hj
    exact wpOp_step ho (fun K' hK => h K' (fun a w hW => hK a w ⟨fun q => (by rw [hz] at q; cases q), hW⟩))⟩
set_option maxRecDepth 100000 in
theorem wpAnyX_done {L : Array Bool} {a : Act} {w : World} (hr : Region.ready md ops L = []) (h : Q .normal a w) : ∀ n, wpAnyX P md ops Q S Z n L a w
  | 0 => ⟨hr, h⟩
  | _ + 1 => ⟨fun _ => h, by rw [hr]; simp⟩
set_option maxRecDepth 100000 in
theorem region_X (Z : List Nat) {id : Nat} {a : Act} {w : World} (hm : P.follows .mixedOrders = true) (hS : S w.drew) (h : S w.drew → wpAnyX P .any ops Q S Z ops.size (Array.replicate ops.size false) a w.drew) : (Code.region id ops true).wp P Q a w :=
  wp_region_any hm (plain_of_X _ _ _ _ (h hS))
end
end Go.Proofs.Ytfhhneibdmjfgaa
