/- rows of strings of the call's own; the secrets along the chances -/
import Derived.Test.YtbmnlhmelbhjeaaDoorCB3
namespace Go.Proofs.YtbmnlhmelbhjeaaDoor
open Go Go.RowKit

theorem info9 : ∃ i, Tryd.prog.info? 9 = some i ∧ i.size = 1 ∧ i.bytes = 16 ∧ i.zero = some (.string ⟨#[]⟩) := by
  have h : (Tryd.prog.info? 9).map (fun i => (i.size, i.bytes, i.zero)) = some (1, 16, some (.string ⟨#[]⟩)) := by kernel_rfl
  cases hq : Tryd.prog.info? 9 with
  | none => simp [hq] at h
  | some i =>
    simp only [hq, Option.map_some, Option.some.injEq, Prod.mk.injEq] at h
    exact ⟨i, rfl, h.1, h.2.1, h.2.2⟩
theorem under22 : Tryd.prog.underlying 22 = some (.slice 9) := by kernel_rfl
theorem own_row {w : World} {base n : Nat} {v : Value} {xs : List ByteArray} (h : w.ownsRow base 9 1 v n (xs.map .string)) (hn : 0 < n) : ∃ g cap tl, v = .slice (some ⟨g, 0, none⟩) n cap ∧ base ≤ g ∧ n ≤ cap ∧ Has w g (xs.map .string ++ tl) 9 ∧ xs.length = n := by
  obtain ⟨hl, hc⟩ := h
  rcases hc with ⟨_, e⟩ | ⟨g, cap, cur, rfl, hb, hheap, h1, h2, h3, h4⟩
  · omega
  · refine ⟨g, cap, cur.toList.drop n, rfl, hb, h1, ?_, by rw [List.length_map, Nat.mul_one] at hl; exact hl⟩
    unfold Has
    rw [← h4, Nat.mul_one, List.take_append_drop]
    exact hheap
theorem own_str {w : World} {base n : Nat} {v : Value} {xs : List ByteArray} (h : w.ownsRow base 9 1 v n (xs.map .string)) (hn : 0 < n) : ∃ g cap, v = .slice (some ⟨g, 0, none⟩) n cap ∧ base ≤ g ∧ n ≤ cap ∧ ∀ j x, xs[j]? = some x → w.cell? ⟨g, j, none⟩ = some (.string x) := by
  obtain ⟨g, cap, tl, e, h1, h2, h3, h4⟩ := own_row h hn
  refine ⟨g, cap, e, h1, h2, fun j x hx => h3.cellv j _ ?_⟩
  have hj := (List.getElem?_eq_some_iff.1 hx).1
  rw [List.getElem?_append_left (by rw [List.length_map]; omega), List.getElem?_map, hx]
  rfl
/-- one string more -/
theorem apps1 (w : World) (base : Nat) (v : Value) (n : Nat) (xs : List ByteArray) (x : ByteArray) (hown : w.ownsRow base 9 1 v n (xs.map .string)) (hn : n ≤ 1000) (hbase : base ≤ w.heap.size) :
    ∃ a' c' w', (Builtin.append_ #[22, 22] 22 #[v, .slice (some ⟨w.heap.size, 0, none⟩) 1 1]).run Tryd.prog (w.alloc (.cells #[.string x] 9)) = .ok (.slice a' (n + 1) c') w' ∧ w'.ownsRow base 9 1 (.slice a' (n + 1) c') (n + 1) ((xs ++ [x]).map .string) ∧ w.grownBy w' v.ownBlock := by
  obtain ⟨i, h1, h2, h3, h4⟩ := info9
  have hk := hown.kept (World.grownBy_alloc w (.cells #[.string x] 9) none) (by cases v.ownBlock <;> simp)
  obtain ⟨v', w', r1, r2, r3, _, r5⟩ := run_append_own_at (P := Tryd.prog) _ base 22 22 9 i (.string ⟨#[]⟩) 1 16 under22 h1 h4 h2 h3 rfl (by decide) v n _ hk ⟨w.heap.size, 0, none⟩ 1 1 [.string x] rfl (fun j u hu => by
      rw [Addr.add_mid, Nat.zero_add]
      refine (Has.newA w #[.string x] 9).cellv j _ ?_
      match j, hu with
      | 0, hu => exact hu
      | j + 1, hu => simp at hu) (fun u hu => by simp at hu; subst hu; rfl) (by unfold maxLen; omega) (by omega) (by rw [heap1]; omega)
  have e : xs.map Value.string ++ [.string x] = (xs ++ [x]).map Value.string := by simp
  rw [e] at r2
  obtain ⟨g, cap, _, rfl, _⟩ := own_row r2 (by omega)
  exact ⟨_, cap, w', r1, r2, (World.grownBy_alloc w (.cells #[.string x] 9) v.ownBlock).trans r3⟩

/-- the secret behind i turns -/
def secAt (seed : ByteArray) (cs : List ByteArray) : Nat → List UInt8
  | 0 => firstS seed
  | i + 1 => turnS (secAt seed cs i) (cs.getD i ⟨#[]⟩)
/-- the one ahead of it -/
def aheadAt (seed : ByteArray) (cs : List ByteArray) : Nat → List UInt8
  | 0 => zl40
  | i + 1 => secAt seed cs i
theorem ep_at (seed : ByteArray) (cs : List ByteArray) : ∀ i, i < 1000 → Ep (secAt seed cs i) (aheadAt seed cs i) (i + 1)
  | 0, _ => Ep.start seed
  | i + 1, h => (ep_at seed cs i (by omega)).turn (by omega) _
/-- what was baked in the first i epochs -/
def bakedL (seed : ByteArray) (cs : List ByteArray) (f n : ByteArray) (i : Nat) : List ByteArray := (List.range i).map fun k => bakeS (secAt seed cs k) f n
theorem bakedL_len (seed : ByteArray) (cs : List ByteArray) (f n : ByteArray) (i : Nat) : (bakedL seed cs f n i).length = i := by simp [bakedL]
theorem bakedL_snoc (seed : ByteArray) (cs : List ByteArray) (f n : ByteArray) (i : Nat) : bakedL seed cs f n i ++ [bakeS (secAt seed cs i) f n] = bakedL seed cs f n (i + 1) := by
  simp [bakedL, List.range_succ]
theorem bakedL_at (seed : ByteArray) (cs : List ByteArray) (f n : ByteArray) (i k : Nat) (hk : k < i) : (bakedL seed cs f n i)[k]? = some (bakeS (secAt seed cs k) f n) := by
  rw [bakedL, List.getElem?_map, List.getElem?_range hk]; rfl
/-- what was baked is taken in its epoch and the next; then no more -/
theorem echo_at (seed : ByteArray) (cs : List ByteArray) (f n : ByteArray) (i k : Nat) (hi : i < 1000) (hk : k ≤ i) :
    chkS (secAt seed cs i) (aheadAt seed cs i) f n (k + 1) (bakeS (secAt seed cs k) f n) = if i ≤ k + 1 then 0 else 100 := by
  have E := ep_at seed cs i hi
  by_cases h1 : k = i
  · subst h1
    rw [E.chk_now, if_pos rfl, if_pos (by omega)]
  · by_cases h2 : k + 1 = i
    · subst h2
      rw [E.chk_ahead (k + 1) rfl (by omega), aheadAt, if_pos rfl, if_pos (by omega)]
    · rw [E.chk_else (k + 1) (by omega) (.inl (by omega)), if_neg (by omega)]
end Go.Proofs.YtbmnlhmelbhjeaaDoor
