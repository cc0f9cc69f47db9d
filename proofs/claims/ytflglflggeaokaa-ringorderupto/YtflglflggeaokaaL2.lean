/- RingOrder's walk. -/
import Derived.Test.YtflglflggeaokaaC1
namespace Go.Proofs.Ytflglflggeaokaa
open Go Go.RowKit

theorem tmod101 (x : Int) : -101 < x.tmod 101 ∧ x.tmod 101 < 101 := by
  have h1 := Int.tmod_lt_of_pos x (show (0 : Int) < 101 by decide)
  have h2 := Int.tmod_lt_of_pos (-x) (show (0 : Int) < 101 by decide)
  rw [Int.neg_tmod] at h2
  omega
theorem tmod2 (x : Int) (h : 0 ≤ x) : x.tmod 2 = 0 ∨ x.tmod 2 = 1 := by
  rw [Int.tmod_eq_emod_of_nonneg h]; omega
/-- where the law stands, by the slots -/
structure At (w wr : World) (rb sz : Nat) (ai : Option Addr) (ni ci : Nat) (ao : Option Addr) (no co : Nat) (nx : Int) : Prop where
  e : ∃ v I O Q, Ord w wr rb v sz (.slice ai ni ci) (.slice ao no co) I O Q nx ∧ I.length = ni ∧ O.length = no ∧ Q.length ≤ sz
  le : (ni : Int) ≤ nx
theorem At.no_le {w wr : World} {rb sz : Nat} {ai : Option Addr} {ni ci : Nat} {ao : Option Addr} {no co : Nat} {nx : Int} (h : At w wr rb sz ai ni ci ao no co nx) : no ≤ ni ∧ ni - no ≤ sz := by
  obtain ⟨v, I, O, Q, o, h1, h2, h3⟩ := h.e
  have := congrArg List.length o.eq
  rw [List.length_append] at this
  omega
theorem At.push {w wr : World} {rb sz : Nat} {ai : Option Addr} {ni ci : Nat} {ao : Option Addr} {no co : Nat} {nx : Int} (h : At w wr rb sz ai ni ci ao no co nx) (hn : ni ≤ 1000000000) (hlt : ni - no < sz) :
    Calls Try.prog 11 #[.pointer (some ⟨rb, 0, none⟩), .int .i64 (nx + 1)] wr fun e w2 => e = .returned (.int .i64 0) ∧ ∃ a' c' w3 B, (Builtin.append_ #[22, 22] 22 #[.slice ai ni ci, .slice (some ⟨w2.heap.size, 0, none⟩) 1 1]).run Try.prog (w2.alloc (.cells #[.int .i64 (nx + 1)] 3)) = .ok (.slice a' (ni + 1) c') w3 ∧ At w w3 rb sz a' (ni + 1) c' ao no co (nx + 1) ∧ a' = some ⟨B, 0, none⟩ ∧ w3.cell? ⟨B, ni, none⟩ = some (.int .i64 (nx + 1)) := by
  obtain ⟨v, I, O, Q, o, h1, h2, h3⟩ := h.e
  have hq := congrArg List.length o.eq
  rw [List.length_append] at hq
  have hle := h.le
  refine (push_c rb v sz Q (nx + 1) wr o.r (by omega)).mono ?_
  rintro e w2 ⟨rfl, v2, p⟩
  obtain ⟨a', c', w3, r1, r2, B, r3, r4⟩ := o.pushed p (by omega) (by omega)
  subst h1
  exact ⟨rfl, a', c', w3, B, r1, ⟨⟨v2, _, O, _, r2, by simp, h2, by rw [List.length_append, List.length_singleton]; omega⟩, by omega⟩, r3, r4⟩
theorem At.full {w wr : World} {rb sz : Nat} {ai : Option Addr} {ni ci : Nat} {ao : Option Addr} {no co : Nat} {nx : Int} (h : At w wr rb sz ai ni ci ao no co nx) (hsz : 1 ≤ sz) (hlt : ¬ ni - no < sz) :
    Calls Try.prog 11 #[.pointer (some ⟨rb, 0, none⟩), .int .i64 (nx + 1)] wr fun e w2 => e = .returned (.int .i64 111) ∧ At w w2 rb sz ai ni ci ao no co (nx + 1) ∧ ∃ B y, ai = some ⟨B, 0, none⟩ ∧ w2.cell? ⟨B, ni - 1, none⟩ = some (.int .i64 y) ∧ y ≠ nx + 1 ∧ 0 < ni := by
  obtain ⟨v, I, O, Q, o, h1, h2, h3⟩ := h.e
  have hq := congrArg List.length o.eq
  rw [List.length_append] at hq
  have hle := h.le
  refine (push_full rb v sz Q (nx + 1) wr o.r (by omega)).mono ?_
  rintro e w2 ⟨rfl, n, rfl⟩
  obtain ⟨_, B, y, hB, hy, hyn⟩ := o.last (by omega)
  subst h1
  exact ⟨rfl, ⟨⟨v, _, O, _, (o.grown (gr_drewN _ n none)).up (by omega), rfl, h2, h3⟩, by omega⟩, B, y, hB, hy, by omega, by omega⟩
theorem At.len {w wr : World} {rb sz : Nat} {ai : Option Addr} {ni ci : Nat} {ao : Option Addr} {no co : Nat} {nx : Int} (h : At w wr rb sz ai ni ci ao no co nx) :
    Calls Try.prog 14 #[.pointer (some ⟨rb, 0, none⟩)] wr fun e w' => e = .returned (.int .i64 ((ni : Int) - no)) ∧ w' = wr := by
  obtain ⟨v, I, O, Q, o, h1, h2, h3⟩ := h.e
  have hq := congrArg List.length o.eq
  rw [List.length_append] at hq
  have := len_c rb v sz Q wr o.r
  rw [show ((Q.length : Nat) : Int) = (ni : Int) - no by omega] at this
  exact this
theorem At.take {w wr : World} {rb sz : Nat} {ai : Option Addr} {ni ci : Nat} {ao : Option Addr} {no co : Nat} {nx : Int} (h : At w wr rb sz ai ni ci ao no co nx) (hn : ni ≤ 1000000000) (n : Int) :
    ∃ k : Nat, (k : Int) = max 0 (min n ((ni : Int) - no)) ∧ Calls Try.prog 12 #[.pointer (some ⟨rb, 0, none⟩), .int .i64 n] wr fun e w2 => e = .returned (.slice (some ⟨wr.heap.size, 0, none⟩) k k) ∧ ∃ a' c' w3, (Builtin.append_ #[22, 22] 22 #[.slice ao no co, .slice (some ⟨wr.heap.size, 0, none⟩) k k]).run Try.prog w2 = .ok (.slice a' (no + k) c') w3 ∧ At w w3 rb sz ai ni ci a' (no + k) c' nx := by
  obtain ⟨v, I, O, Q, o, h1, h2, h3⟩ := h.e
  have hq := congrArg List.length o.eq
  rw [List.length_append] at hq
  have hle := h.le
  obtain ⟨k, hk⟩ : ∃ k, k = (min n (Q.length : Nat)).toNat := ⟨_, rfl⟩
  refine ⟨k, by omega, (take_c rb v sz Q n k wr o.r hk).mono ?_⟩
  rintro e w2 ⟨rfl, t⟩
  have hkl := t.le
  obtain ⟨a', c', w3, r1, r2⟩ := o.took t (by omega)
  subst h2
  exact ⟨rfl, a', c', w3, r1, ⟨⟨v, I, _, _, r2, h1, by rw [List.length_append, List.length_take]; omega, by rw [List.length_drop]; omega⟩, hle⟩⟩
theorem At.pop {w wr : World} {rb sz : Nat} {ai : Option Addr} {ni ci : Nat} {ao : Option Addr} {no co : Nat} {nx : Int} (h : At w wr rb sz ai ni ci ao no co nx) (hn : ni ≤ 1000000000) (hlt : no < ni) :
    ∃ x, Calls Try.prog 13 #[.pointer (some ⟨rb, 0, none⟩)] wr fun e w2 => e = .returned (.tuple #[.int .i64 x, .bool true]) ∧ ∃ a' c' w3, (Builtin.append_ #[22, 22] 22 #[.slice ao no co, .slice (some ⟨w2.heap.size, 0, none⟩) 1 1]).run Try.prog (w2.alloc (.cells #[.int .i64 x] 3)) = .ok (.slice a' (no + 1) c') w3 ∧ At w w3 rb sz ai ni ci a' (no + 1) c' nx := by
  obtain ⟨v, I, O, Q, o, h1, h2, h3⟩ := h.e
  have hq := congrArg List.length o.eq
  rw [List.length_append] at hq
  have hle := h.le
  cases Q with
  | nil => rw [List.length_nil] at hq; omega
  | cons x Q =>
    refine ⟨x, (pop_c rb v sz Q x wr o.r).mono ?_⟩
    rintro e w2 ⟨rfl, r, f, _⟩
    obtain ⟨a', c', w3, r1, r2⟩ := o.popped r f (by omega)
    subst h2
    rw [List.length_cons] at h3
    exact ⟨rfl, a', c', w3, r1, ⟨⟨v, I, _, _, r2, h1, by simp, by omega⟩, hle⟩⟩
theorem At.popno {w wr : World} {rb sz : Nat} {ai : Option Addr} {ni ci : Nat} {ao : Option Addr} {no co : Nat} {nx : Int} (h : At w wr rb sz ai ni ci ao no co nx) (hlt : ¬ no < ni) :
    Calls Try.prog 13 #[.pointer (some ⟨rb, 0, none⟩)] wr fun e w2 => e = .returned (.tuple #[.int .i64 0, .bool false]) ∧ w2 = wr := by
  obtain ⟨v, I, O, Q, o, h1, h2, h3⟩ := h.e
  have hq := congrArg List.length o.eq
  rw [List.length_append] at hq
  cases Q with
  | nil => exact pop_no rb v sz wr o.r
  | cons x Q => rw [List.length_cons] at hq; omega
theorem At.drewN {w wr : World} {rb sz : Nat} {ai : Option Addr} {ni ci : Nat} {ao : Option Addr} {no co : Nat} {nx : Int} (h : At w wr rb sz ai ni ci ao no co nx) (k : Nat) : At w (wr.drewN k) rb sz ai ni ci ao no co nx := by
  obtain ⟨v, I, O, Q, o, h1, h2, h3⟩ := h.e
  exact ⟨⟨v, I, O, Q, o.grown (gr_drewN _ k none), h1, h2, h3⟩, h.le⟩
theorem At.same {w wr : World} {rb sz : Nat} {ai : Option Addr} {ni ci : Nat} {ao : Option Addr} {no co : Nat} {nx : Int} (h : At w wr rb sz ai ni ci ao no co nx) (hn : no = ni) (hz : ni ≤ 1000000000) :
    Calls Try.prog 15 #[.slice ai ni ci, .slice ao no co] wr fun e w' => e = .returned (.bool true) ∧ At w w' rb sz ai ni ci ao no co nx := by
  obtain ⟨v, I, O, Q, o, h1, h2, h3⟩ := h.e
  have hq := congrArg List.length o.eq
  rw [List.length_append] at hq
  have hQ : Q = [] := List.length_eq_zero_iff.1 (by omega)
  have hIO : I = O := by rw [o.eq, hQ, List.append_nil]
  obtain ⟨a1, c1, e1, n1⟩ := row_shape o.i
  obtain ⟨a2, c2, e2, n2⟩ := row_shape o.o
  injection e1 with x1 x2 x3
  injection e2 with y1 y2 y3
  subst x1 y1
  rw [h1] at n1
  rw [h2] at n2
  have := same_c ai ao ni no ci co I O wr n1 n2 (by omega) (by omega)
  rw [decide_eq_true hIO] at this
  refine this.mono ?_
  rintro e w' ⟨rfl, k, rfl⟩
  exact ⟨rfl, h.drewN k⟩
theorem At.room {w wr : World} {rb sz : Nat} {ai : Option Addr} {ni ci : Nat} {ao : Option Addr} {no co : Nat} {nx : Int} (h : At w wr rb sz ai ni ci ao no co nx) (hn : no = ni) :
    Calls Try.prog 16 #[.pointer (some ⟨rb, 0, none⟩)] wr fun e w' => e = .returned (.int .i64 sz) ∧ w.grownBy w' none := by
  obtain ⟨v, I, O, Q, o, h1, h2, h3⟩ := h.e
  have hq := congrArg List.length o.eq
  rw [List.length_append] at hq
  have := room_c rb v sz Q wr o.r
  rw [show ((sz : Int) - (Q.length : Nat)) = sz by omega] at this
  refine this.mono ?_
  rintro e w' ⟨rfl, k, rfl⟩
  exact ⟨rfl, o.g.trans (gr_drewN _ _ _)⟩
theorem At.len0 {w wr : World} {rb sz : Nat} {ai : Option Addr} {ni ci : Nat} {ao : Option Addr} {no co : Nat} {nx : Int} (h : At w wr rb sz ai ni ci ao no co nx) (hn : no = ni) :
    Calls Try.prog 14 #[.pointer (some ⟨rb, 0, none⟩)] wr fun e w' => e = .returned (.int .i64 0) ∧ w' = wr := by
  have := h.len
  rw [show (ni : Int) - no = 0 by omega] at this
  exact this

set_option maxRecDepth 100000 in
set_option maxHeartbeats 16000000 in
theorem order_walk (size : Int) (a : Option Addr) (n c : Nat) (steps : List Int) (w : World) (hst : Ints w a n steps) (hn : n ≤ 1048576) :
    Calls Try.prog 3 #[.int .i64 size, .slice a n c] w fun e w' => e = .returned (.bool true) ∧ w.grownBy w' none := by
  have HS : Keep (Ints w a n steps) := ⟨hst⟩
  clear hst
  go_enter Try.func3, Try.ntmps3
  go_wp2_with fail
  refine (alive_c w).mono ?_
  rintro e w1 ⟨rfl, g1⟩
  have G1 : Keep (w.grownBy w1 none) := ⟨g1⟩
  clear g1
  by_cases hsz : 1 ≤ size ∧ size ≤ 4096
  · obtain ⟨sz, rfl⟩ : ∃ sz : Nat, size = sz := ⟨size.toNat, by omega⟩
    have hs1 : ¬ ((sz : Int) < 1) := by omega
    have hs2 : ¬ (4096 < (sz : Int)) := by omega
    have hz1 : 1 ≤ sz := by omega
    have hz2 : sz ≤ 4096 := by omega
    clear hsz
    go_wp2_with fail
    refine (my_new w sz w1 G1.out hz1 hz2).mono ?_
    rintro e w2 ⟨rfl, m2, _, _⟩
    have A2 : Keep (At w w2 w1.heap.size sz none 0 0 none 0 0 0) := by
      obtain ⟨v, r, hlo⟩ := m2.r
      exact ⟨{ e := ⟨v, [], [], [], { r := r, i := ⟨rfl, .inl ⟨rfl, rfl⟩⟩, o := ⟨rfl, .inl ⟨rfl, rfl⟩⟩, io := fun k e => (by cases e), ri := fun k _ e => (by cases e), ro := fun k _ e => (by cases e), lo := hlo, g := m2.g, eq := rfl, nx := fun x hx => (by cases hx) }, rfl, rfl, Nat.zero_le _⟩, le := Int.le_refl _ }⟩
    clear m2 G1
    generalize w1.heap.size = rb at *
    go_wp2_with ((go_at_call 10; refine (num_c _ _).mono ?_; rintro e w' ⟨rfl, hw⟩; subst w'))
    go_loopw [9, 10, 11, 12] (fun u9 u10 u11 u12 wr => ∃ (nx i : Int) (ai : Option Addr) (ni ci : Nat) (ao : Option Addr) (no co : Nat), 0 ≤ i ∧ i ≤ n ∧ 0 ≤ nx ∧ nx ≤ 100 * i ∧ u9 = .int .i64 nx ∧ u10 = .slice ai ni ci ∧ u11 = .slice ao no co ∧ u12 = .int .i64 i ∧ Keep (At w wr rb sz ai ni ci ao no co nx)) (fun _ _ _ u _ => (n - (intOf u)).toNat)
    case atStart => exact ⟨0, 0, none, 0, 0, none, 0, 0, by omega, by omega, by omega, by omega, rfl, rfl, rfl, rfl, A2⟩
    case round =>
      obtain ⟨nx, i, ai, ni, ci, ao, no, co, hi0, hi1, hn0, hn1, rfl, rfl, rfl, rfl, hA⟩ := hrel
      clear A2
      by_cases hlt : i < n
      · obtain ⟨B, o, rfl, hc⟩ := HS.out.at_ (by omega)
        obtain ⟨x, hx⟩ : ∃ x, steps[i.toNat]? = some x := ⟨_, List.getElem?_eq_getElem (by rw [HS.out.len]; omega)⟩
        have e1 : w.cell? ⟨B, o + i.toNat, none⟩ = some (.int .i64 x) := hc _ _ hx
        have e2 : wr.cell? ⟨B, o + i.toNat, none⟩ = some (.int .i64 x) := by
          obtain ⟨v, I, O, Q, oo, _⟩ := hA.out.e
          have hb : B < w.heap.size := World.block_lt_of_cell? w ⟨B, o + i.toNat, none⟩ e1
          rw [← e1]
          simp only [World.cell?]
          rw [oo.g.block B hb (by simp)]
        clear hx hc e1
        obtain ⟨t, ht⟩ : ∃ t, x.tmod 101 = t := ⟨_, rfl⟩
        have ht1 : -101 < t ∧ t < 101 := by rw [← ht]; exact tmod101 x
        have hwt : IntKind.i64.wrap t = t := wi _ (by omega) (by omega)
        have hwi : IntKind.i64.wrap (i + 1) = i + 1 := wi _ (by omega) (by omega)
        rename World => wo
        go_wp2_with fail
        clear ht e2 hwt
        go_loopw [9, 10, 13] (fun u9 u10 u13 wr => ∃ (nx2 t2 : Int) (ai : Option Addr) (ni ci : Nat), nx ≤ nx2 ∧ nx2 ≤ nx + 100 ∧ nx2 + t2 ≤ nx + 100 ∧ -101 < t2 ∧ t2 < 101 ∧ u9 = .int .i64 nx2 ∧ u10 = .slice ai ni ci ∧ u13 = .int .i64 t2 ∧ Keep (At w wr rb sz ai ni ci ao no co nx2)) (fun _ _ u _ => (intOf u).toNat)
        case atStart => exact ⟨nx, t, ai, ni, ci, by omega, by omega, by omega, by omega, by omega, rfl, rfl, rfl, hA⟩
        case round =>
          obtain ⟨nx2, t2, ai, ni, ci, hx1, hx2, hx3, hx4, hx5, rfl, rfl, rfl, hB⟩ := hrel
          clear hA
          have hnn : ni ≤ 200000000 := by have := hB.out.le; omega
          by_cases htp : 0 < t2
          · have hw1 : IntKind.i64.wrap (nx2 + 1) = nx2 + 1 := wi _ (by omega) (by omega)
            have hw2 : IntKind.i64.wrap (t2 - 1) = t2 - 1 := wi _ (by omega) (by omega)
            have hno := hB.out.no_le
            by_cases hfull : ni - no < sz
            · go_wp2_with fail
              refine (hB.out.push (by omega) hfull).mono ?_
              rintro e w3 ⟨rfl, a2, c2, w4, B2, r1, r2, rfl, r3⟩
              have R2 : Keep (At w w4 rb sz (some ⟨B2, 0, none⟩) (ni + 1) c2 ao no co (nx2 + 1)) := ⟨r2⟩
              clear r2
              obtain ⟨m1, hm1⟩ : ∃ m1, ni + 1 = m1 := ⟨_, rfl⟩
              rw [hm1] at r1 R2
              have R1 : Keep (_ = _) := ⟨r1⟩
              clear r1
              have hb1 : IntKind.i64.wrap ((m1 : Int) - 1) = ni := by rw [← hm1]; exact (wi _ (by omega) (by omega)).trans (by omega)
              have hb2 : (ni : Int) < m1 := by omega
              have hb3 : ((m1 : Int) == 0) = false := by simp; omega
              obtain ⟨d, hd⟩ : ∃ d : Int, (m1 : Int) - no = d := ⟨_, rfl⟩
              have hb4 : IntKind.i64.wrap d = d := wi _ (by omega) (by omega)
              have hx6 : nx2 + 1 ≤ nx + 100 := by omega
              have hx7 : nx2 + 1 + (t2 - 1) ≤ nx + 100 := by omega
              clear hm1 hno hfull hB
              by_cases hge : (sz : Int) ≤ d
              · go_wp2_with ((first | (go_at_call 10; refine (num_c _ _).mono ?_; rintro e w' ⟨rfl, hw⟩; subst w') | (at_builtin; refine wpList_append_run _ rfl (.tmp 72) (.tmp 74) 22 rfl _ _ rfl rfl R1.out ?_)))
                exact ⟨⟨nx2 + 1, t2 - 1, _, m1, c2, by omega, by omega, by omega, by omega, by omega, rfl, rfl, rfl, R2⟩, by simp only [intOf]; omega⟩
              · go_wp2_with ((first | (go_at_call 10; refine (num_c _ _).mono ?_; rintro e w' ⟨rfl, hw⟩; subst w') | (at_builtin; refine wpList_append_run _ rfl (.tmp 72) (.tmp 74) 22 rfl _ _ rfl rfl R1.out ?_)))
                exact ⟨⟨nx2 + 1, t2 - 1, _, m1, c2, by omega, by omega, by omega, by omega, by omega, rfl, rfl, rfl, R2⟩, by simp only [intOf]; omega⟩
            · go_wp2_with fail
              refine (hB.out.full hz1 hfull).mono ?_
              rintro e w3 ⟨rfl, r2, B2, y, rfl, r3, r4, r5⟩
              have R2 : Keep (At w w3 rb sz (some ⟨B2, 0, none⟩) ni ci ao no co (nx2 + 1)) := ⟨r2⟩
              clear r2
              have hb1 : IntKind.i64.wrap ((ni : Int) - 1) = (ni : Int) - 1 := wi _ (by omega) (by omega)
              have hb2 : (ni : Int) - 1 < ni := by omega
              have hb5 : ((ni : Int) - 1).toNat = ni - 1 := by omega
              have hb6 : (0 : Int) ≤ (ni : Int) - 1 := by omega
              have hb3 : ((ni : Int) == 0) = false := by simp; omega
              have hb7 : (y != nx2 + 1) = true := by simpa using r4
              obtain ⟨d, hd⟩ : ∃ d : Int, (ni : Int) - no = d := ⟨_, rfl⟩
              have hb4 : IntKind.i64.wrap d = d := wi _ (by omega) (by omega)
              have hge : (sz : Int) ≤ d := by omega
              clear hno hfull hB
              go_wp2_with ((go_at_call 10; refine (num_c _ _).mono ?_; rintro e w' ⟨rfl, hw⟩; subst w'))
              exact ⟨⟨nx2 + 1, t2 - 1, _, ni, ci, by omega, by omega, by omega, by omega, by omega, rfl, rfl, rfl, R2⟩, by simp only [intOf]; omega⟩
          · have hno := hB.out.no_le
            have hw0 : IntKind.i64.wrap 0 = 0 := by decide
            have hw3 : IntKind.i64.wrap 1 = 1 := by decide
            have hwn : IntKind.i64.wrap (-t2) = -t2 := wi _ (by omega) (by omega)
            have hwd : ∀ q : Nat, q ≤ ni → IntKind.i64.wrap ((ni : Int) - q) = (ni : Int) - q := fun q hq => wi _ (by omega) (by omega)
            by_cases ht0 : t2 < 0
            · rcases tmod2 i hi0 with hr | hr
              · obtain ⟨k, hk, hT⟩ := hB.out.take (by omega) (-t2)
                have hkk : k + no ≤ ni := by omega
                go_wp2_with fail
                refine hT.mono ?_
                rintro e w3 ⟨rfl, a2, c2, w4, r1, r2⟩
                obtain ⟨n2, hn2⟩ : ∃ n2, no + k = n2 := ⟨_, rfl⟩
                rw [hn2] at r1 r2
                have hwd2 := hwd n2 (by omega)
                have hgt : ¬ ((sz : Int) < (ni : Int) - n2) := by omega
                have R1 : Keep (_ = _) := ⟨r1⟩
                have HB : Keep (At w w4 rb sz ai ni ci a2 n2 c2 nx2) := ⟨r2⟩
                clear r1 r2 hT hwd hB hk hno hkk hn2
                go_wp2_with ((first | (go_at_call 10; refine (num_c _ _).mono ?_; rintro e w' ⟨rfl, hw⟩; subst w') | (at_builtin; refine wpList_append_run _ rfl (.tmp 116) (.tmp 120) 22 rfl _ _ rfl rfl R1.out ?_)))
                rename World => wz
                go_loopw [11, 13] (fun u11 u13 wq => u11 = .slice a2 n2 c2 ∧ u13 = .int .i64 t2 ∧ wq = wz) (fun _ _ _ => 0)
                case atStart => exact ⟨rfl, rfl, rfl⟩
                case round =>
                  obtain ⟨rfl, rfl, hwz⟩ := hrel
                  subst hwz
                  go_wp2_with fail
                  refine (HB.out.len).mono ?_
                  rintro e w' ⟨rfl, hw⟩
                  subst w'
                  go_wp2_with fail
                  refine (HB.out.len).mono ?_
                  rintro e w' ⟨rfl, hw⟩
                  subst w'
                  go_wp2_with fail
                  exact ⟨⟨nx2, i + 1, ai, ni, ci, a2, n2, c2, by omega, by omega, by omega, by omega, rfl, rfl, rfl, rfl, HB⟩, by simp only [intOf]; omega⟩
              · have hwd1 := hwd no (by omega)
                clear hwd
                go_wp2_with fail
                rename World => wz
                go_loopw [11, 13] (fun u11 u13 wq => ∃ (t3 : Int) (ao : Option Addr) (no co : Nat), t2 ≤ t3 ∧ t3 ≤ 0 ∧ u11 = .slice ao no co ∧ u13 = .int .i64 t3 ∧ Keep (At w wq rb sz ai ni ci ao no co nx2)) (fun _ u _ => (-(intOf u)).toNat)
                case atStart => exact ⟨t2, ao, no, co, by omega, by omega, rfl, rfl, hB⟩
                case round =>
                  obtain ⟨t3, ao, no, co, ht31, ht32, rfl, rfl, HB⟩ := hrel
                  clear hB
                  have hno := HB.out.no_le
                  by_cases ht3 : t3 < 0
                  · have hw4 : IntKind.i64.wrap (t3 + 1) = t3 + 1 := wi _ (by omega) (by omega)
                    by_cases hp : no < ni
                    · obtain ⟨x, hP⟩ := HB.out.pop (by omega) hp
                      go_wp2_with fail
                      refine hP.mono ?_
                      rintro e w3 ⟨rfl, a2, c2, w4, r1, r2⟩
                      obtain ⟨n2, hn2⟩ : ∃ n2, no + 1 = n2 := ⟨_, rfl⟩
                      rw [hn2] at r1 r2
                      have R1 : Keep (_ = _) := ⟨r1⟩
                      have HB2 : Keep (At w w4 rb sz ai ni ci a2 n2 c2 nx2) := ⟨r2⟩
                      clear r1 r2 hP HB hno hn2 hwd1
                      go_wp2_with ((first | (go_at_call 10; refine (num_c _ _).mono ?_; rintro e w' ⟨rfl, hw⟩; subst w') | (at_builtin; refine wpList_append_run _ rfl (.tmp 137) (.tmp 139) 22 rfl _ _ rfl rfl R1.out ?_)))
                      exact ⟨⟨t3 + 1, a2, n2, c2, by omega, by omega, rfl, rfl, HB2⟩, by simp only [intOf]; omega⟩
                    · go_wp2_with fail
                      refine (HB.out.popno hp).mono ?_
                      rintro e w' ⟨rfl, hw⟩
                      subst w'
                      go_wp2_with fail
                      exact ⟨⟨t3 + 1, ao, no, co, by omega, by omega, rfl, rfl, HB⟩, by simp only [intOf]; omega⟩
                  · have hwd2 : IntKind.i64.wrap ((ni : Int) - no) = (ni : Int) - no := wi _ (by omega) (by omega)
                    have hgt : ¬ ((sz : Int) < (ni : Int) - no) := by omega
                    clear hwd1
                    go_wp2_with fail
                    refine (HB.out.len).mono ?_
                    rintro e w' ⟨rfl, hw⟩
                    subst w'
                    go_wp2_with fail
                    refine (HB.out.len).mono ?_
                    rintro e w' ⟨rfl, hw⟩
                    subst w'
                    go_wp2_with fail
                    exact ⟨⟨nx2, i + 1, ai, ni, ci, ao, no, co, by omega, by omega, by omega, by omega, rfl, rfl, rfl, rfl, HB⟩, by simp only [intOf]; omega⟩
            · have hwd1 := hwd no (by omega)
              have hgt : ¬ ((sz : Int) < (ni : Int) - no) := by omega
              have HB := hB
              clear hwd hB
              go_wp2_with fail
              rename World => wz
              go_loopw [11, 13] (fun u11 u13 wq => u11 = .slice ao no co ∧ u13 = .int .i64 t2 ∧ wq = wz) (fun _ _ _ => 0)
              case atStart => exact ⟨rfl, rfl, rfl⟩
              case round =>
                obtain ⟨rfl, rfl, hwz⟩ := hrel
                subst hwz
                go_wp2_with fail
                refine (HB.out.len).mono ?_
                rintro e w' ⟨rfl, hw⟩
                subst w'
                go_wp2_with fail
                refine (HB.out.len).mono ?_
                rintro e w' ⟨rfl, hw⟩
                subst w'
                go_wp2_with fail
                exact ⟨⟨nx2, i + 1, ai, ni, ci, ao, no, co, by omega, by omega, by omega, by omega, rfl, rfl, rfl, rfl, HB⟩, by simp only [intOf]; omega⟩
      · have hno := hA.out.no_le
        have hnn : ni ≤ 200000000 := by have := hA.out.le; omega
        obtain ⟨k, hk, hT⟩ := hA.out.take (by omega) (sz : Int)
        have hkk : no + k = ni := by omega
        go_wp2_with fail
        refine hT.mono ?_
        rintro e w3 ⟨rfl, a2, c2, w4, r1, r2⟩
        rw [hkk] at r1 r2
        have R1 : Keep (_ = _) := ⟨r1⟩
        have HB : Keep (At w w4 rb sz ai ni ci a2 ni c2 nx) := ⟨r2⟩
        clear r1 r2 hT hk hno hkk hA
        go_wp2_with ((first | (go_at_call 10; refine (num_c _ _).mono ?_; rintro e w' ⟨rfl, hw⟩; subst w') | (at_builtin; refine wpList_append_run _ rfl (.tmp 155) (.tmp 158) 22 rfl _ _ rfl rfl R1.out ?_)))
        refine (HB.out.same rfl (by omega)).mono ?_
        rintro e w5 ⟨rfl, h5⟩
        have H5 : Keep (At w w5 rb sz ai ni ci a2 ni c2 nx) := ⟨h5⟩
        clear h5 HB
        go_wp2_with fail
        refine (H5.out.len0 rfl).mono ?_
        rintro e w' ⟨rfl, hw⟩
        subst w'
        go_wp2_with fail
        refine (H5.out.room rfl).mono ?_
        rintro e w6 ⟨rfl, h6⟩
        have H6 : Keep (w.grownBy w6 none) := ⟨h6⟩
        clear h6 H5
        go_wp2_with fail
        go_ret
        exact ⟨rfl, H6.out⟩
  · by_cases hs0 : size < 1
    · go_wp2_with fail
      refine (new_no size w1 hsz).mono ?_
      rintro e w' ⟨rfl, hw⟩
      subst w'
      go_wp2_with ((go_at_call 10; refine (num_c _ _).mono ?_; rintro e w' ⟨rfl, hw⟩; subst w'))
      go_ret
      exact ⟨rfl, G1.out⟩
    · have hs1 : 4096 < size := by omega
      go_wp2_with fail
      refine (new_no size w1 hsz).mono ?_
      rintro e w' ⟨rfl, hw⟩
      subst w'
      go_wp2_with ((go_at_call 10; refine (num_c _ _).mono ?_; rintro e w' ⟨rfl, hw⟩; subst w'))
      go_ret
      exact ⟨rfl, G1.out⟩
end Go.Proofs.Ytflglflggeaokaa
