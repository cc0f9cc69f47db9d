/- SmoothBetween -/
import Derived.Test.YtfhhneibdmjfgabN2
import Derived.Test.YtfhhneibdmjfgabN3
import Derived.Test.YtfhhneibdmjfgabB3
namespace Go.Proofs.Ytfhhneibdmjfgab
open Go Go.RowKit Go.Maps Sm
set_option maxRecDepth 100000
attribute [local go_sem] run_store_fl

/-- a view with its list -/
structure Vw where
  tk : Int
  c : Cr
  v : Value
  L : List Sn
def vwv (x : Vw) : List Value := vwL x.tk x.c x.v
structure OkV (W : World) (x : Vw) : Prop where
  r : RdS W x.v x.L
  o : ∀ s ∈ x.L, SnOk s
  n : x.L.length ≤ 1048576
theorem pick2 {W0 : World} {x y : Vw} (hx : OkV W0 x) (hy : OkV W0 y) {i : Nat} (hi : i < 2) (lb : Nat) : ∃ X, OkV W0 X ∧ ∀ w, Has w lb (vwv x ++ vwv y) 32 → w.rangeAt lb (i * 16) (vwv X) := by
  match i, hi with
  | 0, _ => exact ⟨x, hx, fun w h => h.rangeMid 0 [] (vwv x) (vwv y) rfl rfl⟩
  | 1, _ => exact ⟨y, hy, fun w h => h.rangeMid 16 (vwv x) (vwv y) [] (by simp) rfl⟩
theorem built32 (x y : Vw) : Try.prog.built 32 [(0, .agg (vwv x).toArray), (1, .agg (vwv y).toArray)] = some (vwv x ++ vwv y).toArray := by kernel_rfl
theorem info32 : (Try.prog.info? 32).map (·.size) = some 32 := by kernel_rfl
theorem vwL_one {tk : Int} {c : Cr} {v : Value} (hv : v.oneCell' = true) : ∀ u ∈ vwL tk c v, u.oneCell' = true := by
  intro u hu
  simp only [vwL, crv, List.cons_append, List.nil_append, List.mem_cons, List.not_mem_nil, or_false] at hu
  rcases hu with rfl | rfl | rfl | rfl | rfl | rfl | rfl | rfl | rfl | rfl | rfl | rfl | rfl | rfl | rfl | rfl <;> first | rfl | exact hv
theorem RdS.one {W : World} {v : Value} {L : List Sn} (h : RdS W v L) : v.oneCell' = true := by
  obtain ⟨a, c, rfl, _⟩ := h.o
  rfl
/-- the list in a row of one's own, what stands behind left out -/
theorem rdS_row {W : World} {g m n k k' : Nat} {M L : List Sn} (h : W.ownsRow 0 39 5 (.slice (some ⟨g, 0, none⟩) m k) m (sns M)) (hm : 0 < m) (hL : ∀ (j : Nat) (x : Sn), L[j]? = some x → M[j]? = some x) (hn : L.length = n) : RdS W (.slice (some ⟨g, 0, none⟩) n k') L := by
  have q := own_rc h hm
  exact ⟨⟨_, k', by rw [hn], fun _ => ⟨g, 0, rfl, fun j x hx r u hu => by
    rw [Nat.zero_add]
    exact q _ u (sns_get M j r x u (hL j x hx) hu)⟩⟩⟩
/-- what the owner writes: the first j -/
def wrs (L : List Sn) (j : Nat) : List Sn := L.mapIdx (fun i s => if i < j then { s with x := (i : Int) * 65536 } else s)
theorem wrs_len (L : List Sn) (j : Nat) : (wrs L j).length = L.length := by unfold wrs; simp
theorem wrs_get (L : List Sn) (j i : Nat) : (wrs L j)[i]? = (L[i]?).map (fun s => if i < j then { s with x := (i : Int) * 65536 } else s) := by unfold wrs; rw [List.getElem?_mapIdx]
theorem wrs_zero (L : List Sn) : wrs L 0 = L := by
  apply List.ext_getElem?
  intro i
  rw [wrs_get]
  cases L[i]? <;> simp
theorem sns_set : ∀ (L : List Sn) (j : Nat) (s : Sn) (x : Int), L[j]? = some s → (sns L).set (j * 5 + 2) (iv x) = sns (L.set j { s with x := x })
  | [], j, s, x, h => by simp at h
  | y :: L, 0, s, x, h => by
    rw [List.getElem?_cons_zero] at h
    injection h with h
    subst h
    rfl
  | y :: L, j + 1, s, x, h => by
    rw [List.getElem?_cons_succ] at h
    show (snv y ++ sns L).set ((j + 1) * 5 + 2) (iv x) = snv y ++ sns (L.set j { s with x := x })
    rw [List.set_append_right _ _ (by rw [snv_len]; omega), snv_len, show (j + 1) * 5 + 2 - 5 = j * 5 + 2 by omega, sns_set L j s x h]
theorem wrs_set {L : List Sn} {j : Nat} {s : Sn} (h : L[j]? = some s) : (wrs L j).set j { s with x := (j : Int) * 65536 } = wrs L (j + 1) := by
  apply List.ext_getElem?
  intro i
  have hj : j < L.length := (List.getElem?_eq_some_iff.1 h).1
  rw [List.getElem?_set, wrs_get, wrs_get, wrs_len]
  by_cases e : j = i
  · subst e
    obtain ⟨_, rfl⟩ := List.getElem?_eq_some_iff.1 h
    simp [hj]
  · rw [if_neg e]
    cases L[i]? with
    | none => rfl
    | some u =>
      have : (i < j) ↔ (i < j + 1) := by omega
      simp [this]
theorem wrs_ok {L : List Sn} (h : ∀ s ∈ L, SnOk s) (hn : L.length ≤ 1048576) (j : Nat) : ∀ s ∈ wrs L j, SnOk s := by
  intro s hs
  obtain ⟨i, hi⟩ := List.getElem?_of_mem hs
  rw [wrs_get] at hi
  cases e : L[i]? with
  | none => rw [e] at hi; cases hi
  | some u =>
    rw [e] at hi
    have hl := (List.getElem?_eq_some_iff.1 e).1
    obtain ⟨h1, h2, h3, h4, h5⟩ := h u (List.mem_of_getElem? e)
    simp only [Option.map_some, Option.some.injEq] at hi
    subst hi
    by_cases c : i < j
    · rw [if_pos c]
      exact ⟨h1, h2, ⟨by simp only; omega, by simp only; omega⟩, h4, h5⟩
    · rw [if_neg c]
      exact ⟨h1, h2, h3, h4, h5⟩
theorem betV_len (a b : Cr) (A B : List Sn) (t : OF) : (betV a b A B t).length ≤ A.length + 1 := by
  unfold betV
  rw [List.length_append]
  have h1 : (ownV a b t).length ≤ 1 := by unfold ownV; split <;> simp
  have h2 := List.length_filterMap_le (oneV B t) A
  omega
end Go.Proofs.Ytfhhneibdmjfgab
