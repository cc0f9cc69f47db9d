/- the reference: edges, Blocked. -/
import Derived.Test.YtobdcngjpgndiabDoorBRA1
namespace Go.Proofs.YtobdcngjpgndiabDoor.Bo
open Go Go.RowKit

/-- the first and the last cell of a box along one way -/
def eg (n h : Int) : Int × Int := if h < 1 then (fl n, fl n) else (fl (min (max n (-1099511627776)) 1099511627776 - min h 4398046511104), fl (min (max n (-1099511627776)) 1099511627776 + min h 4398046511104 - 1))
set_option maxRecDepth 100000 in
set_option maxHeartbeats 4000000 in
theorem redges_c (w : World) (n h : Int) (hn : In n) (hh : In h) : Calls Tryd.prog 44 #[iv n, iv h] w fun e w' => e = .returned (.tuple #[iv (eg n h).1, iv (eg n h).2]) ∧ w' = w := by
  unfold eg
  by_cases h1 : h < 1
  · rw [if_pos h1]
    have HF := Keep.mk (fun W => rfloor_c W n hn)
    generalize fl n = f at *
    clear hn hh
    go_enter Tryd.func44, Tryd.ntmps44
    go_wp2_with fail
    refine (HF.out _).mono ?_
    rintro e w1 ⟨rfl, rfl⟩
    go_wp2_with fail
    refine (HF.out _).mono ?_
    rintro e w1 ⟨rfl, rfl⟩
    go_wp2_with fail
    go_ret2
    exact ⟨rfl, rfl⟩
  · rw [if_neg h1]
    obtain ⟨a, ha⟩ : ∃ a, min (max n (-1099511627776)) 1099511627776 = a := ⟨_, rfl⟩
    obtain ⟨b, hb⟩ : ∃ b, min h 4398046511104 = b := ⟨_, rfl⟩
    rw [ha, hb]
    have a1 : -1099511627776 ≤ a ∧ a ≤ 1099511627776 := by omega
    have b1 : 1 ≤ b ∧ b ≤ 4398046511104 := by omega
    have HF1 := Keep.mk (fun W => rfloor_c W (a - b) (by constructor <;> omega))
    have HF2 := Keep.mk (fun W => rfloor_c W (a + b - 1) (by constructor <;> omega))
    have k1 : IntKind.i64.wrap (a - b) = a - b := wi _ (by omega) (by omega)
    have k2 : IntKind.i64.wrap (a + b) = a + b := wi _ (by omega) (by omega)
    have k3 : IntKind.i64.wrap (a + b - 1) = a + b - 1 := wi _ (by omega) (by omega)
    simp only
    generalize fl (a - b) = f1 at *
    generalize fl (a + b - 1) = f2 at *
    clear hn hh
    have m1 : ∀ (ts : Array TypeId) (t : TypeId) (W : World), (Builtin.max_ ts t #[.int .i64 n, .int .i64 (-1099511627776)]).run Tryd.prog W = .ok (.int .i64 (max n (-1099511627776))) W := fun ts t W => by
      rw [run_max_int2]
      congr 2
      split <;> omega
    have m2 : ∀ (ts : Array TypeId) (t : TypeId) (W : World), (Builtin.min_ ts t #[.int .i64 (max n (-1099511627776)), .int .i64 1099511627776]).run Tryd.prog W = .ok (.int .i64 a) W := fun ts t W => by
      rw [run_min_int2]
      congr 2
      split <;> omega
    have m3 : ∀ (ts : Array TypeId) (t : TypeId) (W : World), (Builtin.min_ ts t #[.int .i64 h, .int .i64 4398046511104]).run Tryd.prog W = .ok (.int .i64 b) W := fun ts t W => by
      rw [run_min_int2]
      congr 2
      split <;> omega
    clear ha hb
    generalize max n (-1099511627776) = mx at *
    go_enter Tryd.func44, Tryd.ntmps44
    go_wp2_with fail
    refine (HF1.out _).mono ?_
    rintro e w1 ⟨rfl, rfl⟩
    go_wp2_with fail
    refine (HF2.out _).mono ?_
    rintro e w1 ⟨rfl, rfl⟩
    go_wp2_with fail
    go_ret2
    exact ⟨rfl, rfl⟩
set_option maxRecDepth 100000 in
theorem eg_out {W : Nat} {p h : Int} (hW : 3 ≤ W ∧ W ≤ 64) (h1 : 1 ≤ h) : ¬ hld W p h ↔ (eg p h).1 < 0 ∨ (eg p h).2 ≥ (W : Int) := by
  unfold eg hld fl
  rw [if_neg (by omega)]
  simp only
  omega
set_option maxRecDepth 100000 in
theorem eg_in {W : Nat} {p h : Int} (hW : 3 ≤ W ∧ W ≤ 64) (h1 : 1 ≤ h) (hl : hld W p h) : (eg p h).1 = nm (p - h) ∧ (eg p h).2 = nm (p + h - 1) := by
  unfold hld at hl
  unfold eg fl nm
  rw [if_neg (by omega), if_neg (by omega), if_neg (by omega)]
  simp only
  omega
set_option maxRecDepth 100000 in
theorem blk_eg {L : Bo} (he : ev L) (px py h : Int) : ((eg px h).1 < 0 ∨ (eg py h).1 < 0 ∨ (eg px h).2 ≥ (wd L : Int) ∨ (eg py h).2 ≥ (L.length : Int) → blk L (px, py) h) ∧ (¬ ((eg px h).1 < 0 ∨ (eg py h).1 < 0 ∨ (eg px h).2 ≥ (wd L : Int) ∨ (eg py h).2 ≥ (L.length : Int)) → (blk L (px, py) h ↔ ∃ b a : Nat, (eg py h).1 ≤ b ∧ (b : Int) ≤ (eg py h).2 ∧ (eg px h).1 ≤ a ∧ (a : Int) ≤ (eg px h).2 ∧ cel L a b = 35)) := by
  have b1 : 3 ≤ wd L ∧ wd L ≤ 64 := he.2.1
  have b2 : 3 ≤ L.length ∧ L.length ≤ 64 := he.1
  by_cases h1 : h < 1
  · have e1 : eg px h = (fl px, fl px) := by unfold eg; rw [if_pos h1]
    have e2 : eg py h = (fl py, fl py) := by unfold eg; rw [if_pos h1]
    rw [e1, e2, blk_low h1, ← cel_fl he]
    simp only
    refine ⟨fun q => cel_out he (by omega), fun q => ?_⟩
    constructor
    · intro hc
      refine ⟨(fl py).toNat, (fl px).toNat, by omega, by omega, by omega, by omega, ?_⟩
      rw [show (((fl px).toNat : Nat) : Int) = fl px by omega, show (((fl py).toNat : Nat) : Int) = fl py by omega]
      exact hc
    · rintro ⟨b, a, q1, q2, q3, q4, q5⟩
      rw [show fl px = (a : Int) by omega, show fl py = (b : Int) by omega]
      exact q5
  · have ox := eg_out (p := px) b1 (show 1 ≤ h by omega)
    have oy := eg_out (p := py) b2 (show 1 ≤ h by omega)
    constructor
    · intro q
      refine blk_out (by omega) ?_
      rcases q with q | q | q | q
      · exact .inl (ox.2 (.inl q))
      · exact .inr (oy.2 (.inl q))
      · exact .inl (ox.2 (.inr q))
      · exact .inr (oy.2 (.inr q))
    · intro q
      have hX : hld (wd L) px h := Classical.byContradiction fun c => by have := ox.1 c; omega
      have hY : hld L.length py h := Classical.byContradiction fun c => by have := oy.1 c; omega
      obtain ⟨x0, x1⟩ := eg_in b1 (by omega) hX
      obtain ⟨y0, y1⟩ := eg_in b2 (by omega) hY
      rw [x0, x1, y0, y1]
      unfold blk
      rw [if_neg h1]
      simp only
      constructor
      · rintro (c | c | c)
        · exact absurd hX c
        · exact absurd hY c
        · exact c
      · exact fun c => .inr (.inr c)
set_option maxRecDepth 100000 in
set_option maxHeartbeats 8000000 in
theorem rblocked_c (w : World) (v : Value) (L : Bo) (h : RB w v L) (x y q : Int) (hx : In x) (hy : In y) (hq : In q) : Calls Tryd.prog 19 #[v, vv x y, iv q] w fun e w' => e = .returned (.bool (decide (blk L (x, y) q))) ∧ w.grownBy w' none := by
  have hb := h.kept (World.grownBy_alloc w (.cells #[iv x, iv y] 23) none)
  have z := Has.newA w #[iv x, iv y] 23
  have ga := World.grownBy_alloc w (.cells #[iv x, iv y] 23) none
  obtain ⟨W, hW⟩ : ∃ W, w.alloc (.cells #[iv x, iv y] 23) = W := ⟨_, rfl⟩
  obtain ⟨kp, hkp⟩ : ∃ kp, w.heap.size = kp := ⟨_, rfl⟩
  rw [hkp] at z
  rw [hW] at hb z ga
  have hz := rsize_c W v L hb
  have HX := Keep.mk (fun W => redges_c W x q hx hq)
  have HY := Keep.mk (fun W => redges_c W y q hy hq)
  have b1 : 3 ≤ wd L ∧ wd L ≤ 64 := h.sh.2.1
  have b2 : 3 ≤ L.length ∧ L.length ≤ 64 := h.sh.1
  obtain ⟨hE1, hE2⟩ := blk_eg h.sh x y q
  obtain ⟨kb, kr, cr, rfl, c0, hr⟩ := hb.o
  have HZ := Keep.mk z
  have HGA := Keep.mk ga
  have HR := Keep.mk hr
  have HC0 := Keep.mk c0
  generalize eg x q = ex at *
  generalize eg y q = ey at *
  obtain ⟨x0, x1⟩ := ex
  obtain ⟨y0, y1⟩ := ey
  simp only at hE1 hE2
  have HE1 := Keep.mk hE1
  have HE2 := Keep.mk hE2
  clear h hb z ga hx hy hq hE1 hE2 hr c0
  obtain ⟨p, hp⟩ : ∃ p, wd L = p := ⟨_, rfl⟩
  obtain ⟨n, hn⟩ : ∃ n, L.length = n := ⟨_, rfl⟩
  rw [hp] at hz b1 HR HE1 HE2
  rw [hn] at hz b2 HR HE1 HE2 HC0
  clear hp hn
  go_enter Tryd.func19, Tryd.ntmps19
  go_wp2_with fail
  refine hz.mono ?_
  rintro e w1 ⟨rfl, m, hw⟩
  have z0 : w1.cell? ⟨kp, 0, none⟩ = some (iv x) := by rw [hw]; exact HZ.out.cellv 0 _ rfl
  have z1 : w1.cell? ⟨kp, 1, none⟩ = some (iv y) := by rw [hw]; exact HZ.out.cellv 1 _ rfl
  have c0 : w1.cell? ⟨kb, 0, none⟩ = some (.slice (some ⟨kr, 0, none⟩) n cr) := by rw [hw]; exact HC0.out
  replace HR : Keep (∀ (y : Nat), y < n → ∃ k c, p ≤ c ∧ w1.cell? ⟨kr, y, none⟩ = some (.slice (some ⟨k, 0, none⟩) p c) ∧ ∀ (x : Nat), x < p → w1.cell? ⟨k, x, none⟩ = some (.int .i32 (cel L x y))) := ⟨by rw [hw]; exact HR.out⟩
  have HG : Keep (w.grownBy w1 none) := ⟨by rw [hw]; exact HGA.out.trans (gr_drewN _ _ _)⟩
  clear hz hw HZ HC0 HGA hW hkp
  go_wp2_with fail
  refine (HX.out _).mono ?_
  rintro e w2 ⟨rfl, rfl⟩
  go_wp2_with fail
  refine (HY.out _).mono ?_
  rintro e w2 ⟨rfl, rfl⟩
  clear HX HY z0 z1
  by_cases t1 : x0 < 0
  · have HT := Keep.mk (HE1.out (.inl t1))
    go_wp2_with fail
    go_ret
    exact ⟨by rw [decide_eq_true HT.out]; rfl, HG.out⟩
  by_cases t2 : y0 < 0
  · have HT := Keep.mk (HE1.out (.inr (.inl t2)))
    go_wp2_with fail
    go_ret
    exact ⟨by rw [decide_eq_true HT.out]; rfl, HG.out⟩
  by_cases t3 : x1 ≥ (p : Int)
  · have HT := Keep.mk (HE1.out (.inr (.inr (.inl t3))))
    go_wp2_with fail
    go_ret
    exact ⟨by rw [decide_eq_true HT.out]; rfl, HG.out⟩
  by_cases t4 : y1 ≥ (n : Int)
  · have HT := Keep.mk (HE1.out (.inr (.inr (.inr t4))))
    go_wp2_with fail
    go_ret
    exact ⟨by rw [decide_eq_true HT.out]; rfl, HG.out⟩
  have HBK := Keep.mk (HE2.out (by omega))
  clear HE1 HE2
  obtain ⟨X0, rfl⟩ : ∃ k : Nat, x0 = k := ⟨x0.toNat, by omega⟩
  obtain ⟨Y0, rfl⟩ : ∃ k : Nat, y0 = k := ⟨y0.toNat, by omega⟩
  go_wp2_with fail
  go_loopw [13] (fun u wr => ∃ b : Nat, Y0 ≤ b ∧ ((b : Int) ≤ y1 + 1 ∨ b = Y0) ∧ u = iv b ∧ wr = w2 ∧ Keep (∀ b' a' : Nat, Y0 ≤ b' → b' < b → X0 ≤ a' → (a' : Int) ≤ x1 → cel L a' b' ≠ 35)) (fun u _ => (y1 + 1 - intOf u).toNat)
  case atStart => exact ⟨Y0, by omega, .inr rfl, rfl, rfl, ⟨fun b' a' h1 h2 => by omega⟩⟩
  case round =>
    obtain ⟨b, hb0, hb1, rfl, rfl, hR⟩ := hrel
    by_cases hlt : (b : Int) ≤ y1
    · go_wp2_with fail
      go_loopw [14] (fun u ws => ∃ a : Nat, X0 ≤ a ∧ ((a : Int) ≤ x1 + 1 ∨ a = X0) ∧ u = iv a ∧ ws = wr ∧ Keep (∀ a' : Nat, X0 ≤ a' → a' < a → cel L a' b ≠ 35)) (fun u _ => (x1 + 1 - intOf u).toNat)
      case atStart => exact ⟨X0, by omega, .inr rfl, rfl, rfl, ⟨fun a' h1 h2 => by omega⟩⟩
      case round =>
        obtain ⟨a, ha0, ha1, rfl, rfl, hA⟩ := hrel
        by_cases hlu : (a : Int) ≤ x1
        · obtain ⟨k, c, _, q1, q2⟩ := HR.out b (by omega)
          have q3 := q2 a (by omega)
          have hai : IntKind.i64.wrap ((a : Int) + 1) = ((a + 1 : Nat) : Int) := by rw [wi _ (by omega) (by omega)]; omega
          have tA : (a : Int).toNat = a := by omega
          have tB : (b : Int).toNat = b := by omega
          have lA : (a : Int) < (p : Nat) := by omega
          have lB : (b : Int) < (n : Nat) := by omega
          clear q2
          obtain ⟨cv, hcv⟩ : ∃ cv, cel L a b = cv := ⟨_, rfl⟩
          rw [hcv] at q3
          have HCV := Keep.mk hcv
          clear hcv
          by_cases h35 : cv = 35
          · have HT : Keep (blk L (x, y) q) := ⟨HBK.out.2 ⟨b, a, by omega, by omega, by omega, by omega, by rw [HCV.out]; exact h35⟩⟩
            subst h35
            go_wp2_with fail
            go_ret
            exact ⟨by rw [decide_eq_true HT.out]; rfl, HG.out⟩
          · go_wp2_with fail
            go_roundw
            case rel =>
              refine ⟨a + 1, by omega, .inl (by omega), rfl, trivial, ⟨fun a' h1 h2 => ?_⟩⟩
              by_cases h3 : a' = a
              · subst h3; rw [HCV.out]; exact h35
              · exact hA.out a' h1 (by omega)
            case measure => simp [intOf]; omega
        · have hbi : IntKind.i64.wrap ((b : Int) + 1) = ((b + 1 : Nat) : Int) := by rw [wi _ (by omega) (by omega)]; omega
          go_wp2_with fail
          go_roundw
          case rel =>
            refine ⟨b + 1, by omega, .inl (by omega), rfl, trivial, ⟨fun b' a' h1 h2 h3 h4 => ?_⟩⟩
            by_cases h5 : b' = b
            · subst h5; exact hA.out a' h3 (by omega)
            · exact hR.out b' a' h1 (by omega) h3 h4
          case measure => simp [intOf]; omega
    · have HT : Keep (¬ blk L (x, y) q) := ⟨fun hh => by
        obtain ⟨b', a', q1, q2, q3, q4, q5⟩ := HBK.out.1 hh
        exact hR.out b' a' (by omega) (by omega) (by omega) q4 q5⟩
      go_wp2_with fail
      go_ret
      exact ⟨by rw [decide_eq_false HT.out]; rfl, HG.out⟩
end Go.Proofs.YtobdcngjpgndiabDoor.Bo
