/- vec: Toward. -/
import Derived.Test.YtkpedhmjjhjniaaDoorV7
namespace Go.Proofs.YtkpedhmjjhjniaaDoor
open Go Go.RowKit

/-- of the headings below n, t leads farthest, and is the least of such -/
structure BestN (x y n t : Int) : Prop where
  t0 : 0 ≤ t
  t1 : t < n
  le : ∀ k, 0 ≤ k → k < n → pr k x y ≤ pr t x y
  lt : ∀ k, 0 ≤ k → k < t → pr k x y < pr t x y
theorem BestN.eq {x y n t s : Int} (h : BestN x y n t) (k : BestN x y n s) : t = s := by
  rcases Int.lt_trichotomy t s with c | c | c
  · have a := k.lt t h.t0 c
    have b := h.le s k.t0 k.t1
    omega
  · exact c
  · have a := h.lt s k.t0 c
    have b := k.le t h.t0 h.t1
    omega
theorem BestN.first (x y : Int) : BestN x y 1 0 := ⟨by omega, by omega, fun k h0 h1 => by
  obtain rfl : k = 0 := by omega
  omega, fun k h0 h1 => by omega⟩
theorem BestN.next {x y n t : Int} (h : BestN x y n t) : (pr t x y < pr n x y → BestN x y (n + 1) n) ∧ (¬ pr t x y < pr n x y → BestN x y (n + 1) t) := by
  have h0 := h.t0; have h1 := h.t1
  constructor
  · intro c
    refine ⟨by omega, by omega, fun k k0 k1 => ?_, fun k k0 k1 => ?_⟩
    · by_cases e : k = n
      · rw [e]; omega
      · have := h.le k k0 (by omega); omega
    · have := h.le k k0 (by omega); omega
  · intro c
    refine ⟨h0, by omega, fun k k0 k1 => ?_, h.lt⟩
    by_cases e : k = n
    · rw [e]; omega
    · exact h.le k k0 (by omega)
theorem best_ex (x y : Int) : ∀ n : Nat, ∃ t, BestN x y ((n : Int) + 1) t
  | 0 => ⟨0, BestN.first x y⟩
  | n + 1 => by
    obtain ⟨t, h⟩ := best_ex x y n
    have e : ((n + 1 : Nat) : Int) + 1 = ((n : Int) + 1) + 1 := by omega
    rw [e]
    by_cases c : pr t x y < pr ((n : Int) + 1) x y
    · exact ⟨_, h.next.1 c⟩
    · exact ⟨_, h.next.2 c⟩
noncomputable def tow (x y : Int) : Int := Classical.epsilon (BestN x y 256)
theorem tow_is (x y : Int) : BestN x y 256 (tow x y) := Classical.epsilon_spec (best_ex x y 255)
theorem tow_eq {x y t : Int} (h : BestN x y 256 t) : tow x y = t := (tow_is x y).eq h
theorem pr_zero (h : Int) : pr h 0 0 = 0 := by unfold pr; omega
theorem tow_zero : tow 0 0 = 0 := tow_eq ⟨by omega, by omega, fun k _ _ => by rw [pr_zero, pr_zero]; omega, fun k _ _ => by omega⟩
/-- the difference, where distances are asked for -/
def df (a b : Int) : Int := lz a b 2147483647
theorem df_range (a b : Int) : -2147483647 ≤ df a b ∧ df a b ≤ 2147483647 := lz_range a b 2147483647 (by omega)
theorem df_self (a : Int) : df a a = 0 := by unfold df lz kz; omega
theorem df_zero {a b : Int} (h : df a b = 0) : a = b := by unfold df lz kz at h; omega
noncomputable def twd (ax ay bx by' : Int) : Int := tow (df bx ax) (df by' ay)
set_option maxHeartbeats 8000000 in
theorem toward_c (ax ay bx by' : Int) (h1 : In ax) (h2 : In ay) (h3 : In bx) (h4 : In by') (w : World) (hk : Kc w) :
    Calls Tryd.prog 12 #[vv ax ay, vv bx by'] w fun e w' => e = .returned (.int .i64 (twd ax ay bx by')) ∧ w.grownBy w' none := by
  have c1 := fun W => minus_c bx by' ax ay 2147483647 h3 h4 h1 h2 (by omega) W
  have e1 : lz bx ax 2147483647 = df bx ax := rfl
  have e2 : lz by' ay 2147483647 = df by' ay := rfl
  rw [e1, e2] at c1
  clear e1 e2 h1 h2 h3 h4
  unfold twd
  have HB := Keep.mk (((Bx.start hk).new ax ay).new bx by')
  clear hk
  rw [size_alloc] at HB
  have c2 := fun h W (hk : Kc W) => along_c h (df bx ax) (df by' ay) (df_range _ _) (df_range _ _) W hk
  by_cases c : ax = bx
  · subst c
    by_cases c' : ay = by'
    · subst c'
      rw [df_self, df_self, tow_zero]
      go_enter Tryd.func12, Tryd.ntmps12
      go_wp2_with fail
      go_ret
      exact ⟨rfl, HB.out.g⟩
    · generalize df ax ax = x at *
      generalize df by' ay = y at *
      go_enter Tryd.func12, Tryd.ntmps12
      go_wp2_with fail
      generalize hW : (w.alloc (.cells #[.int .i64 ax, .int .i64 ay] 25)).alloc (.cells #[.int .i64 ax, .int .i64 by'] 25) = W at HB ⊢
      refine (c1 _).mono ?_
      rintro e w1 ⟨rfl, hg⟩
      have HB1 := Keep.mk ((HB.out.kept hg).new x y)
      clear hg HB c1 hW
      obtain ⟨wb, hwb⟩ : ∃ wb, w1.heap.size = wb := ⟨_, rfl⟩
      rw [hwb] at HB1
      have x0 := (HB1.out.has _ _ _ (.head _)).cellv 0 _ rfl
      have x1 := (HB1.out.has _ _ _ (.head _)).cellv 1 _ rfl
      go_wp2_with fail
      generalize w1.alloc (.cells #[.int .i64 x, .int .i64 y] 25) = W1 at HB1 x0 x1 ⊢
      refine (c2 0 _ HB1.out.k).mono ?_
      rintro e w2 ⟨rfl, hg⟩
      have HB2 := Keep.mk (HB1.out.kept hg)
      clear hg HB1 x0 x1
      go_wp2_with fail
      have HF := Keep.mk (BestN.first x y)
      go_loopw [6, 7, 8] (fun s6 s7 s8 w' => ∃ n t : Int, 1 ≤ n ∧ n ≤ 256 ∧ s6 = .int .i64 t ∧ s7 = .int .i64 (pr t x y) ∧ s8 = .int .i64 n ∧ Keep (Bx w w' [(wb, x, y), (w.heap.size + 1, ax, by'), (w.heap.size, ax, ay)] ∧ BestN x y n t)) (fun _ _ s8 _ => (256 - intOf s8).toNat)
      case atStart => exact ⟨1, 0, by omega, by omega, rfl, rfl, rfl, ⟨HB2.out, HF.out⟩⟩
      case round =>
        clear HF HB2
        obtain ⟨n, t, n0, n1, rfl, rfl, rfl, HI⟩ := hrel
        by_cases d : n < 256
        · have x0 := (HI.out.1.has _ _ _ (.head _)).cellv 0 _ rfl
          have x1 := (HI.out.1.has _ _ _ (.head _)).cellv 1 _ rfl
          by_cases g : pr t x y < pr n x y
          · have HN := Keep.mk (HI.out.2.next.1 g)
            have cn := fun W hk => c2 n W hk
            generalize hp : pr n x y = p at *
            generalize hq : pr t x y = q at *
            go_wp2_with fail
            refine (cn _ HI.out.1.k).mono ?_
            rintro e w3 ⟨rfl, hg⟩
            have HB3 := Keep.mk (HI.out.1.kept hg)
            clear hg HI x0 x1
            go_wp2_with fail
            refine ⟨⟨n + 1, n, by omega, by omega, rfl, by rw [hp], rfl, ⟨HB3.out, HN.out⟩⟩, ?_⟩
            simp only [intOf]; omega
          · have HN := Keep.mk (HI.out.2.next.2 g)
            have cn := fun W hk => c2 n W hk
            generalize hp : pr n x y = p at *
            generalize hq : pr t x y = q at *
            go_wp2_with fail
            refine (cn _ HI.out.1.k).mono ?_
            rintro e w3 ⟨rfl, hg⟩
            have HB3 := Keep.mk (HI.out.1.kept hg)
            clear hg HI x0 x1
            go_wp2_with fail
            refine ⟨⟨n + 1, t, by omega, by omega, rfl, by rw [hq], rfl, ⟨HB3.out, HN.out⟩⟩, ?_⟩
            simp only [intOf]; omega
        · obtain rfl : n = 256 := by omega
          have HE := Keep.mk (tow_eq HI.out.2)
          go_wp2_with fail
          go_ret
          exact ⟨ret_int HE.out.symm, HI.out.1.g⟩
  · skip
    generalize df bx ax = x at *
    generalize df by' ay = y at *
    go_enter Tryd.func12, Tryd.ntmps12
    go_wp2_with fail
    generalize hW : (w.alloc (.cells #[.int .i64 ax, .int .i64 ay] 25)).alloc (.cells #[.int .i64 bx, .int .i64 by'] 25) = W at HB ⊢
    refine (c1 _).mono ?_
    rintro e w1 ⟨rfl, hg⟩
    have HB1 := Keep.mk ((HB.out.kept hg).new x y)
    clear hg HB c1 hW
    obtain ⟨wb, hwb⟩ : ∃ wb, w1.heap.size = wb := ⟨_, rfl⟩
    rw [hwb] at HB1
    have x0 := (HB1.out.has _ _ _ (.head _)).cellv 0 _ rfl
    have x1 := (HB1.out.has _ _ _ (.head _)).cellv 1 _ rfl
    go_wp2_with fail
    generalize w1.alloc (.cells #[.int .i64 x, .int .i64 y] 25) = W1 at HB1 x0 x1 ⊢
    refine (c2 0 _ HB1.out.k).mono ?_
    rintro e w2 ⟨rfl, hg⟩
    have HB2 := Keep.mk (HB1.out.kept hg)
    clear hg HB1 x0 x1
    go_wp2_with fail
    have HF := Keep.mk (BestN.first x y)
    go_loopw [6, 7, 8] (fun s6 s7 s8 w' => ∃ n t : Int, 1 ≤ n ∧ n ≤ 256 ∧ s6 = .int .i64 t ∧ s7 = .int .i64 (pr t x y) ∧ s8 = .int .i64 n ∧ Keep (Bx w w' [(wb, x, y), (w.heap.size + 1, bx, by'), (w.heap.size, ax, ay)] ∧ BestN x y n t)) (fun _ _ s8 _ => (256 - intOf s8).toNat)
    case atStart => exact ⟨1, 0, by omega, by omega, rfl, rfl, rfl, ⟨HB2.out, HF.out⟩⟩
    case round =>
      clear HF HB2
      obtain ⟨n, t, n0, n1, rfl, rfl, rfl, HI⟩ := hrel
      by_cases d : n < 256
      · have x0 := (HI.out.1.has _ _ _ (.head _)).cellv 0 _ rfl
        have x1 := (HI.out.1.has _ _ _ (.head _)).cellv 1 _ rfl
        by_cases g : pr t x y < pr n x y
        · have HN := Keep.mk (HI.out.2.next.1 g)
          have cn := fun W hk => c2 n W hk
          generalize hp : pr n x y = p at *
          generalize hq : pr t x y = q at *
          go_wp2_with fail
          refine (cn _ HI.out.1.k).mono ?_
          rintro e w3 ⟨rfl, hg⟩
          have HB3 := Keep.mk (HI.out.1.kept hg)
          clear hg HI x0 x1
          go_wp2_with fail
          refine ⟨⟨n + 1, n, by omega, by omega, rfl, by rw [hp], rfl, ⟨HB3.out, HN.out⟩⟩, ?_⟩
          simp only [intOf]; omega
        · have HN := Keep.mk (HI.out.2.next.2 g)
          have cn := fun W hk => c2 n W hk
          generalize hp : pr n x y = p at *
          generalize hq : pr t x y = q at *
          go_wp2_with fail
          refine (cn _ HI.out.1.k).mono ?_
          rintro e w3 ⟨rfl, hg⟩
          have HB3 := Keep.mk (HI.out.1.kept hg)
          clear hg HI x0 x1
          go_wp2_with fail
          refine ⟨⟨n + 1, t, by omega, by omega, rfl, by rw [hq], rfl, ⟨HB3.out, HN.out⟩⟩, ?_⟩
          simp only [intOf]; omega
      · obtain rfl : n = 256 := by omega
        have HE := Keep.mk (tow_eq HI.out.2)
        go_wp2_with fail
        go_ret
        exact ⟨ret_int HE.out.symm, HI.out.1.g⟩
end Go.Proofs.YtkpedhmjjhjniaaDoor
