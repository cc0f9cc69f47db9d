/- the laws' num and same; a ring of the call's own. -/
import Derived.Test.YtflglflggeaokaaA3
import Derived.Test.YtflglflggeaokaaA4
namespace Go.Proofs.Ytflglflggeaokaa
open Go Go.RowKit

theorem num_c (x : Int) (w : World) : Calls Try.prog 10 #[.int .i64 x] w fun e w' => e = .returned (.int .i64 x) ∧ w' = w := by
  go_enter Try.func10, Try.ntmps10
  go_wp2_with fail
  go_ret
  exact ⟨rfl, rfl⟩

/-- a slice of ints, as it reads -/
structure Ints (w : World) (a : Option Addr) (n : Nat) (xs : List Int) : Prop where
  len : xs.length = n
  at_ : 0 < n → ∃ B o, a = some ⟨B, o, none⟩ ∧ ∀ j x, xs[j]? = some x → w.cell? ⟨B, o + j, none⟩ = some (iv x)
theorem Ints.of {w : World} {b : Nat} {xs : List Int} {t : TypeId} (h : Has w b (xs.map iv) t) : Ints w (some ⟨b, 0, none⟩) xs.length xs :=
  ⟨rfl, fun _ => ⟨b, 0, rfl, fun j x hx => by rw [Nat.zero_add, h.cell, List.getElem?_map, hx]; rfl⟩⟩
theorem Ints.drewN {w : World} {a : Option Addr} {n : Nat} {xs : List Int} (h : Ints w a n xs) (k : Nat) : Ints (w.drewN k) a n xs := ⟨h.len, h.at_⟩
theorem Ints.kept {w w' : World} {a : Option Addr} {n : Nat} {xs : List Int} (h : Ints w a n xs) (hg : w.grownBy w' none) : Ints w' a n xs := by
  refine ⟨h.len, fun hn => ?_⟩
  obtain ⟨B, o, e, hc⟩ := h.at_ hn
  refine ⟨B, o, e, fun j x hx => ?_⟩
  have h1 := hc j x hx
  have hb : B < w.heap.size := World.block_lt_of_cell? w ⟨B, o + j, none⟩ h1
  rw [← h1]
  simp only [World.cell?]
  rw [hg.block B hb (by simp)]

theorem ne_of_at {xs ys : List Int} {i : Nat} {x y : Int} (hx : xs[i]? = some x) (hy : ys[i]? = some y) (h : x ≠ y) : xs ≠ ys := by
  intro e; rw [e, hy] at hx; exact h (Option.some.inj hx).symm

set_option maxHeartbeats 1000000 in
theorem same_c (a b : Option Addr) (n m ca cb : Nat) (xs ys : List Int) (w : World) (hx : Ints w a n xs) (hy : Ints w b m ys) (hn : n ≤ 9223372036854775807) (hm : m ≤ 9223372036854775807) :
    Calls Try.prog 15 #[.slice a n ca, .slice b m cb] w fun e w' => e = .returned (.bool (decide (xs = ys))) ∧ ∃ k, w' = w.drewN k := by
  obtain ⟨d, hd⟩ : ∃ d, decide (xs = ys) = d := ⟨_, rfl⟩
  rw [hd]
  have HD : Keep (decide (xs = ys) = d) := ⟨hd⟩
  clear hd
  have HX : Keep (Ints w a n xs) := ⟨hx⟩
  have HY : Keep (Ints w b m ys) := ⟨hy⟩
  clear hx hy
  go_enter Try.func15, Try.ntmps15
  by_cases hnm : n = m
  · subst hnm
    have hne : ((n : Int) == (n : Int)) = true := by simp
    go_wp2_with fail
    go_loopw [5] (fun u wr => ∃ i : Int, 0 ≤ i ∧ i ≤ n ∧ u = .int .i64 i ∧ Keep ((∀ j, j < i.toNat → xs[j]? = ys[j]?) ∧ ∃ k, wr = w.drewN k)) (fun u _ => (n - (intOf u)).toNat)
    case atStart => exact ⟨0, by omega, by omega, rfl, ⟨fun j hj => by simp at hj, 0, rfl⟩⟩
    case round =>
      obtain ⟨i, hi0, hin, rfl, hF⟩ := hrel
      obtain ⟨k, rfl⟩ := hF.out.2
      by_cases hlt : i < n
      · obtain ⟨B, o, rfl, hc⟩ := HX.out.at_ (by omega)
        obtain ⟨B2, o2, rfl, hc2⟩ := HY.out.at_ (by omega)
        obtain ⟨x, hx⟩ : ∃ x, xs[i.toNat]? = some x := ⟨_, List.getElem?_eq_getElem (by rw [HX.out.len]; omega)⟩
        obtain ⟨y, hy⟩ : ∃ y, ys[i.toNat]? = some y := ⟨_, List.getElem?_eq_getElem (by rw [HY.out.len]; omega)⟩
        have e1 : w.cell? ⟨B, o + i.toNat, none⟩ = some (.int .i64 x) := hc _ _ hx
        have e2 : w.cell? ⟨B2, o2 + i.toNat, none⟩ = some (.int .i64 y) := hc2 _ _ hy
        have HE : Keep (xs[i.toNat]? = some x ∧ ys[i.toNat]? = some y) := ⟨hx, hy⟩
        have hw : IntKind.i64.wrap (i + 1) = i + 1 := wi _ (by omega) (by omega)
        clear hx hy hc hc2
        go_wp2_with fail
        go_quiet (fail)
        by_cases hxy : x = y
        · go_wp2_with fail
          refine ⟨⟨i + 1, by omega, by omega, rfl, ⟨fun j hj => ?_, _, rfl⟩⟩, by simp only [intOf]; omega⟩
          by_cases hji : j < i.toNat
          · exact hF.out.1 j hji
          · have : j = i.toNat := by omega
            rw [this, HE.out.1, HE.out.2, hxy]
        · go_wp2_with fail
          go_ret
          refine ⟨?_, _, World.drewN_drewN _ _ _⟩
          rw [← HD.out, decide_eq_false (ne_of_at HE.out.1 HE.out.2 hxy)]
          rfl
      · go_wp2_with fail
        go_ret
        refine ⟨?_, _, rfl⟩
        have : xs = ys := by
          apply List.ext_getElem?
          intro j
          by_cases hj : j < i.toNat
          · exact hF.out.1 j hj
          · rw [List.getElem?_eq_none (by rw [HX.out.len]; omega), List.getElem?_eq_none (by rw [HY.out.len]; omega)]
        rw [← HD.out, decide_eq_true this]
        rfl
  · have hne : ((n : Int) == (m : Int)) = false := by simp; omega
    go_wp2_with fail
    go_ret
    refine ⟨?_, 0, rfl⟩
    rw [← HD.out, decide_eq_false (fun e => hnm (by rw [← HX.out.len, ← HY.out.len, e]))]
    rfl

/-- a ring of the call's own -/
structure Mine (w0 w : World) (rb sz : Nat) (L : List Int) : Prop where
  r : ∃ v, RingAt w rb v sz L ∧ ∀ i, RF rb v i → w0.heap.size ≤ i
  g : w0.grownBy w none
theorem Mine.drewN {w0 w : World} {rb sz : Nat} {L : List Int} (h : Mine w0 w rb sz L) (n : Nat) : Mine w0 (w.drewN n) rb sz L := by
  obtain ⟨v, h1, h2⟩ := h.r
  exact ⟨⟨v, h1.drewN n, h2⟩, h.g.trans (gr_drewN _ _ _)⟩
theorem Mine.grown {w0 w w' : World} {rb sz : Nat} {L : List Int} (h : Mine w0 w rb sz L) (hg : w.grownBy w' none) : Mine w0 w' rb sz L := by
  obtain ⟨v, h1, h2⟩ := h.r
  exact ⟨⟨v, h1.kept hg, h2⟩, h.g.trans hg⟩
theorem fr_mine {S : Nat → Prop} {w0 w w' : World} (g : w0.grownBy w none) (f : Fr S w w') (hs : ∀ i, S i → w0.heap.size ≤ i) : w0.grownBy w' none :=
  (Fr.then (Fr.ofNone (S := fun _ => False) g) f (fun i e => .inr (hs i e))).none (fun _ e => e.elim)
theorem my_new (w0 : World) (sz : Nat) (w : World) (g : w0.grownBy w none) (h : 1 ≤ sz) (h2 : sz ≤ 4096) :
    Calls Try.prog 9 #[.int .i64 (sz : Nat)] w fun e w' => e = .returned (.tuple #[.pointer (some ⟨w.heap.size, 0, none⟩), .int .i64 0]) ∧ Mine w0 w' w.heap.size sz [] ∧ w.grownBy w' none ∧ w'.heap.size = w.heap.size + 1 := by
  refine (new_yes sz w h h2).mono ?_
  rintro e w' ⟨rfl, r, hg, hs⟩
  refine ⟨rfl, ⟨⟨_, r, fun i hi => ?_⟩, g.trans hg⟩, hg, hs⟩
  rcases hi with rfl | hi
  · exact g.size
  · cases hi
theorem my_push {w0 w : World} {rb sz : Nat} {L : List Int} (h : Mine w0 w rb sz L) (x : Int) (hl : L.length < sz) :
    Calls Try.prog 11 #[.pointer (some ⟨rb, 0, none⟩), .int .i64 x] w fun e w' => e = .returned (.int .i64 0) ∧ Mine w0 w' rb sz (L ++ [x]) := by
  obtain ⟨v, h1, h2⟩ := h.r
  refine (push_c rb v sz L x w h1 hl).mono ?_
  rintro e w' ⟨rfl, v', p⟩
  refine ⟨rfl, ⟨v', p.r, fun i hi => ?_⟩, fr_mine h.g p.f h2⟩
  rcases hi with rfl | hi
  · exact h2 _ (.inl rfl)
  · rcases p.n i hi with q | q
    · exact h2 _ (.inr q)
    · have := h.g.size; omega
theorem my_full {w0 w : World} {rb sz : Nat} {L : List Int} (h : Mine w0 w rb sz L) (x : Int) (hl : L.length = sz) :
    Calls Try.prog 11 #[.pointer (some ⟨rb, 0, none⟩), .int .i64 x] w fun e w' => e = .returned (.int .i64 111) ∧ Mine w0 w' rb sz L := by
  obtain ⟨v, h1, h2⟩ := h.r
  refine (push_full rb v sz L x w h1 hl).mono ?_
  rintro e w' ⟨rfl, n, rfl⟩
  exact ⟨rfl, h.drewN n⟩
theorem my_pop {w0 w : World} {rb sz : Nat} {L : List Int} {x : Int} (h : Mine w0 w rb sz (x :: L)) :
    Calls Try.prog 13 #[.pointer (some ⟨rb, 0, none⟩)] w fun e w' => e = .returned (.tuple #[.int .i64 x, .bool true]) ∧ Mine w0 w' rb sz L := by
  obtain ⟨v, h1, h2⟩ := h.r
  refine (pop_c rb v sz L x w h1).mono ?_
  rintro e w' ⟨rfl, r, f, _⟩
  exact ⟨rfl, ⟨v, r, h2⟩, fr_mine h.g f h2⟩
theorem my_pop_no {w0 w : World} {rb sz : Nat} (h : Mine w0 w rb sz []) :
    Calls Try.prog 13 #[.pointer (some ⟨rb, 0, none⟩)] w fun e w' => e = .returned (.tuple #[.int .i64 0, .bool false]) ∧ w' = w := by
  obtain ⟨v, h1, h2⟩ := h.r
  exact pop_no rb v sz w h1
theorem my_take {w0 w : World} {rb sz : Nat} {L : List Int} (h : Mine w0 w rb sz L) (n : Int) (k : Nat) (hk : k = (min n (L.length : Nat)).toNat) :
    Calls Try.prog 12 #[.pointer (some ⟨rb, 0, none⟩), .int .i64 n] w fun e w' => e = .returned (.slice (some ⟨w.heap.size, 0, none⟩) k k) ∧ Mine w0 w' rb sz (L.drop k) ∧ Has w' w.heap.size ((L.take k).map iv) 3 := by
  obtain ⟨v, h1, h2⟩ := h.r
  refine (take_c rb v sz L n k w h1 hk).mono ?_
  rintro e w' ⟨rfl, t⟩
  exact ⟨rfl, ⟨⟨v, t.r, h2⟩, fr_mine h.g t.f h2⟩, t.h⟩
theorem my_len {w0 w : World} {rb sz : Nat} {L : List Int} (h : Mine w0 w rb sz L) :
    Calls Try.prog 14 #[.pointer (some ⟨rb, 0, none⟩)] w fun e w' => e = .returned (.int .i64 (L.length : Nat)) ∧ w' = w := by
  obtain ⟨v, h1, h2⟩ := h.r
  exact len_c rb v sz L w h1
theorem my_room {w0 w : World} {rb sz : Nat} {L : List Int} (h : Mine w0 w rb sz L) :
    Calls Try.prog 16 #[.pointer (some ⟨rb, 0, none⟩)] w fun e w' => e = .returned (.int .i64 ((sz : Int) - (L.length : Nat))) ∧ ∃ n, w' = w.drewN n := by
  obtain ⟨v, h1, h2⟩ := h.r
  exact room_c rb v sz L w h1
end Go.Proofs.Ytflglflggeaokaa
