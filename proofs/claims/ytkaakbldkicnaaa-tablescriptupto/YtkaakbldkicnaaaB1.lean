/- the laws' num, texts, last. -/
import Derived.Test.YtkaakbldkicnaaaS2
namespace Go.Proofs.Ytkaakbldkicnaaa
open Go Go.RowKit Go.Maps

theorem wi (x : Int) (h : -9223372036854775808 ≤ x) (h2 : x ≤ 9223372036854775807) : IntKind.i64.wrap x = x := by
  rw [IntKind.wrap_i64]; omega
theorem str_ne {x y : ByteArray} (h : ¬ x = y) : (x.toList == y.toList) = false := by
  rw [beq_eq_false_iff_ne]
  intro e
  rw [ByteArray.toList_eq, ByteArray.toList_eq] at e
  exact h (sl_inj e)
theorem str_eq (x : ByteArray) : (x.toList == x.toList) = true := by simp
theorem num_c (x : Int) (w : World) : Calls Try.prog 26 #[iv x] w fun e w' => e = .returned (iv x) ∧ w' = w := by
  go_enter Try.func26, Try.ntmps26
  go_wp2_with fail
  go_ret
  exact ⟨rfl, rfl⟩
set_option maxHeartbeats 2000000 in
theorem texts_c (W : World) (va vb : Value) (xs ys : List ByteArray) (ha : Str W va xs) (hb : Str W vb ys) (hx : xs.length ≤ 4611686018427387904) :
    Calls Try.prog 17 #[va, vb] W fun r W' => r = .returned (.bool (decide (xs = ys))) ∧ W.grownBy W' none := by
  by_cases hl : xs.length = ys.length
  · by_cases h0 : xs.length = 0
    · have e1 : xs = [] := List.eq_nil_of_length_eq_zero h0
      have e2 : ys = [] := List.eq_nil_of_length_eq_zero (by omega)
      subst e1 e2
      obtain ⟨a1, c1, rfl⟩ : ∃ a c, va = .slice a 0 c := by
        rcases ha.o with ⟨rfl, _⟩ | ⟨a, c, rfl, _⟩
        · exact ⟨_, _, rfl⟩
        · exact ⟨_, _, rfl⟩
      obtain ⟨a2, c2, rfl⟩ : ∃ a c, vb = .slice a 0 c := by
        rcases hb.o with ⟨rfl, _⟩ | ⟨a, c, rfl, _⟩
        · exact ⟨_, _, rfl⟩
        · exact ⟨_, _, rfl⟩
      rw [show decide (([] : List ByteArray) = []) = true by simp]
      clear ha hb
      go_enter Try.func17, Try.ntmps17
      go_wp2_with fail
      go_loopw [5] (fun v wr => v = .int .i64 0 ∧ Keep (W.grownBy wr none)) (fun _ _ => 0)
      case atStart => exact ⟨rfl, ⟨World.grownBy.refl _ _⟩⟩
      case round =>
        obtain ⟨rfl, hG⟩ := hrel
        go_wp2_with fail
        go_ret
        exact ⟨rfl, hG.out⟩
    · obtain ⟨a1, q1, rfl, ka⟩ : ∃ a c, va = .slice (some a) xs.length c ∧ ∀ j x, xs[j]? = some x → W.cell? (a.add j) = some (.string x) := by
        rcases ha.o with ⟨rfl, rfl⟩ | h
        · exact absurd rfl h0
        · exact h
      obtain ⟨a2, q2, rfl, kb⟩ : ∃ a c, vb = .slice (some a) ys.length c ∧ ∀ j x, ys[j]? = some x → W.cell? (a.add j) = some (.string x) := by
        rcases hb.o with ⟨rfl, rfl⟩ | h
        · exact absurd hl h0
        · exact h
      rw [← hl]
      have HH : Keep ((∀ j x, xs[j]? = some x → W.cell? (a1.add j) = some (.string x)) ∧ (∀ j x, ys[j]? = some x → W.cell? (a2.add j) = some (.string x))) := ⟨ka, kb⟩
      obtain ⟨n, hn⟩ : ∃ n, xs.length = n := ⟨_, rfl⟩
      have HN : Keep (xs.length = n ∧ ys.length = n) := ⟨hn, by omega⟩
      rw [hn] at h0 hx ⊢
      clear ha hb hl hn ka kb
      obtain ⟨b, hb⟩ : ∃ b, decide (xs = ys) = b := ⟨_, rfl⟩
      have HB : Keep (decide (xs = ys) = b) := ⟨hb⟩
      rw [hb]
      clear hb
      go_enter Try.func17, Try.ntmps17
      go_wp2_with fail
      go_loopw [5] (fun v wr => ∃ i : Nat, i ≤ n ∧ v = .int .i64 i ∧ Keep ((∃ q, wr = W.drewN q) ∧ ∀ j, j < i → xs[j]? = ys[j]?)) (fun v _ => (n - (intOf v)).toNat)
      case atStart => exact ⟨0, by omega, rfl, ⟨⟨0, rfl⟩, fun j hj => by omega⟩⟩
      case round =>
        obtain ⟨i, hi, rfl, hR⟩ := hrel
        obtain ⟨⟨q, rfl⟩, hR2⟩ := hR.out
        by_cases hlt : i < n
        · obtain ⟨x, hx1⟩ : ∃ x, xs[i]? = some x := ⟨_, List.getElem?_eq_getElem (by rw [HN.out.1]; exact hlt)⟩
          obtain ⟨y, hy1⟩ : ∃ y, ys[i]? = some y := ⟨_, List.getElem?_eq_getElem (by rw [HN.out.2]; exact hlt)⟩
          have c1 : W.cell? (a1.add i) = some (.string x) := HH.out.1 i x hx1
          have c2 : W.cell? (a2.add i) = some (.string y) := HH.out.2 i y hy1
          have hi0 : (0 : Int) ≤ (i : Int) := by omega
          have hi1 : (i : Int) < (n : Nat) := by omega
          have hwi : IntKind.i64.wrap ((i : Int) + 1) = i + 1 := wi _ (by omega) (by omega)
          have hti : ((i : Nat) : Int).toNat = i := by omega
          have HX : Keep (xs[i]? = some x ∧ ys[i]? = some y ∧ i < n ∧ ∀ j, j < i → xs[j]? = ys[j]?) := ⟨hx1, hy1, hlt, hR2⟩
          clear hx1 hy1 hR2 hR hi
          by_cases hxy : x = y
          · subst hxy
            go_wp2_with fail
            go_quiet (fail)
            go_wp2_with fail
            refine ⟨⟨i + 1, by have := HX.out.2.2.1; omega, rfl, ⟨⟨_, rfl⟩, fun j hj => ?_⟩⟩, by have := HX.out.2.2.1; simp only [intOf]; omega⟩
            by_cases e : j = i
            · rw [e, HX.out.1, HX.out.2.1]
            · exact HX.out.2.2.2 j (by omega)
          · have hbf : b = false := by
              rw [← HB.out]
              simp only [decide_eq_false_iff_not]
              intro e
              have h1 := HX.out.1
              rw [e, HX.out.2.1] at h1
              injection h1 with h1
              exact hxy h1.symm
            subst hbf
            have hsn := str_ne hxy
            go_wp2_with fail
            go_quiet (fail)
            go_wp2_with fail
            go_ret
            exact ⟨rfl, (gr_drewN _ _ _).trans (gr_drewN _ _ _)⟩
        · obtain rfl : i = n := by omega
          have hbt : b = true := by
            rw [← HB.out]
            simp only [decide_eq_true_eq]
            apply List.ext_getElem?
            intro j
            by_cases hj : j < i
            · exact hR2 j hj
            · rw [List.getElem?_eq_none (by rw [HN.out.1]; omega), List.getElem?_eq_none (by rw [HN.out.2]; omega)]
          subst hbt
          clear hR hR2
          go_wp2_with fail
          go_ret
          exact ⟨rfl, gr_drewN _ _ _⟩
  · rw [show decide (xs = ys) = false by
      simp only [decide_eq_false_iff_not]
      exact fun e => hl (by rw [e])]
    obtain ⟨a1, c1, rfl⟩ : ∃ a c, va = .slice a xs.length c := by
      rcases ha.o with ⟨rfl, rfl⟩ | ⟨a, c, rfl, _⟩
      · exact ⟨_, _, rfl⟩
      · exact ⟨_, _, rfl⟩
    obtain ⟨a2, c2, rfl⟩ : ∃ a c, vb = .slice a ys.length c := by
      rcases hb.o with ⟨rfl, rfl⟩ | ⟨a, c, rfl, _⟩
      · exact ⟨_, _, rfl⟩
      · exact ⟨_, _, rfl⟩
    have hl2 : ¬ ((xs.length : Int) = ys.length) := by omega
    clear ha hb
    generalize xs.length = n at *
    generalize ys.length = m at *
    go_enter Try.func17, Try.ntmps17
    go_wp2_with fail
    go_ret
    exact ⟨rfl, World.grownBy.refl _ _⟩
end Go.Proofs.Ytkaakbldkicnaaa
