/- VecToward -/
import Derived.Test.YtkpedhmjjhjniaaDoorVC
namespace Go.Proofs.YtkpedhmjjhjniaaDoor
open Go Go.RowKit

set_option maxHeartbeats 16000000 in
theorem towards_any (ax ay bx by' h : Int) (h1 : In ax) (h2 : In ay) (h3 : In bx) (h4 : In by') (w : World) (hk : Kc w) :
    Calls Tryd.prog 4 #[vv ax ay, vv bx by', .int .i64 h] w fun e w' => e = .returned (.bool true) ∧ w.grownBy w' none := by
  have HK := Keep.mk (((Bx.start hk).new ax ay).new bx by')
  rw [size_alloc] at HK
  obtain ⟨b3, hb3⟩ : ∃ b, w.heap.size = b := ⟨_, rfl⟩
  obtain ⟨b4, hb4⟩ : ∃ b, b3 + 1 = b := ⟨_, rfl⟩
  obtain ⟨W0, hW0⟩ : ∃ W, (w.alloc (.cells #[.int .i64 ax, .int .i64 ay] 25)).alloc (.cells #[.int .i64 bx, .int .i64 by'] 25) = W := ⟨_, rfl⟩
  rw [hb3, hb4, hW0] at HK
  have c0 := fun W (hk : Kc W) => alive_c W hk
  have c1 := fun W (hk : Kc W) => toward_c ax ay bx by' h1 h2 h3 h4 W hk
  have c2 := fun W (hk : Kc W) => toward_c ax ay ax ay h1 h2 h1 h2 W hk
  have e2 : twd ax ay ax ay = 0 := by unfold twd; rw [df_self, df_self, tow_zero]
  rw [e2] at c2
  have c3 := fun W (hk : Kc W) => small_c ax ay bx by' W hk
  have c4 := fun W (hk : Kc W) => vsub_c bx by' ax ay h3 h4 h1 h2 W hk
  have c5 := fun W (hk : Kc W) => toward_c bx by' ax ay h3 h4 h1 h2 W hk
  have HT : Keep (BestN (df bx ax) (df by' ay) 256 (twd ax ay bx by')) := ⟨tow_is _ _⟩
  have HX := Keep.mk (And.intro (df_range bx ax) (df_range by' ay))
  have ht := And.intro HT.out.t0 HT.out.t1
  clear e2 hk
  go_enter Tryd.func4, Tryd.ntmps4
  go_wp2_with fail
  refine (c0 _ HK.out.k).mono ?_
  rintro e w0 ⟨rfl, hg⟩
  have HB := Keep.mk (HK.out.kept hg)
  clear hg HK c0 hW0 hb3 hb4 W0
  obtain ⟨t, htw⟩ : ∃ t, twd ax ay bx by' = t := ⟨_, rfl⟩
  rw [htw] at c1 HT ht
  have p0 := (HB.out.has _ _ _ (.tail _ (.head _))).cellv 0 _ rfl
  have p1 := (HB.out.has _ _ _ (.tail _ (.head _))).cellv 1 _ rfl
  have q0 := (HB.out.has _ _ _ (.head _)).cellv 0 _ rfl
  have q1 := (HB.out.has _ _ _ (.head _)).cellv 1 _ rfl
  go_wp2_with fail
  refine (c1 _ HB.out.k).mono ?_
  rintro e w1 ⟨rfl, hg⟩
  clear p0 p1 q0 q1
  replace HB := Keep.mk (HB.out.kept hg)
  clear hg
  have p0 := (HB.out.has _ _ _ (.tail _ (.head _))).cellv 0 _ rfl
  have p1 := (HB.out.has _ _ _ (.tail _ (.head _))).cellv 1 _ rfl
  go_wp2_with fail
  refine (c2 _ HB.out.k).mono ?_
  rintro e w1 ⟨rfl, hg⟩
  clear p0 p1
  replace HB := Keep.mk (HB.out.kept hg)
  clear hg
  have p0 := (HB.out.has _ _ _ (.tail _ (.head _))).cellv 0 _ rfl
  have p1 := (HB.out.has _ _ _ (.tail _ (.head _))).cellv 1 _ rfl
  have q0 := (HB.out.has _ _ _ (.head _)).cellv 0 _ rfl
  have q1 := (HB.out.has _ _ _ (.head _)).cellv 1 _ rfl
  go_wp2_with fail
  refine (c3 _ HB.out.k).mono ?_
  rintro e w1 ⟨rfl, hg⟩
  clear p0 p1 q0 q1
  replace HB := Keep.mk (HB.out.kept hg)
  clear hg
  clear c1 c2 c3 htw
  by_cases hs : smB ax ay bx by' = false
  · rw [hs]
    go_wp2_with fail
    go_ret
    exact ⟨rfl, HB.out.g⟩
  · replace hs : smB ax ay bx by' = true := by simpa using hs
    rw [hs]
    obtain ⟨s1, s2, s3, s4⟩ := sm_of hs
    rw [lz_sm s3 s1, lz_sm s4 s2] at c4
    rw [df_sm s3 s1, df_sm s4 s2] at HX HT
    have e5 : twd bx by' ax ay = tow (-(bx - ax)) (-(by' - ay)) := by
      unfold twd; rw [df_sm s1 s3, df_sm s2 s4, show ax - bx = -(bx - ax) by omega, show ay - by' = -(by' - ay) by omega]
    rw [e5] at c5
    have u1 := add_sm s1 (sin_range (h + 64))
    have u2 := add_sm s2 (sin_range h)
    have cuh := fun W (hk : Kc W) => unit_c h W hk
    have cad := fun W => vadd_c ax ay (sinZ (h + 64)) (sinZ h) h1 h2 (by have := sin_range (h + 64); unfold In; omega) (by have := sin_range h; unfold In; omega) W
    rw [u1.1, u2.1] at cad
    have cth := fun W (hk : Kc W) => toward_c ax ay (ax + sinZ (h + 64)) (ay + sinZ h) h1 h2 u1.2.2 u2.2.2 W hk
    have e6 : twd ax ay (ax + sinZ (h + 64)) (ay + sinZ h) = h % 256 := by unfold twd; rw [u1.2.1, u2.2.1, tow_unit]
    rw [e6] at cth
    have ch := fun W => turn_c h 0 W
    rw [show (h + 0) % 256 = h % 256 by rw [Int.add_zero]] at ch
    have ct := fun W => turn_c t 128 W
    have cu := fun W (hk : Kc W) => unit_c t W hk
    have m1 := mul_bd _ (bx - ax) (sin_range (t + 64)) HX.out.1
    have m2 := mul_bd _ (by' - ay) (sin_range t) HX.out.2
    have HPT : Keep (sinZ (t + 64) * (bx - ax) + sinZ t * (by' - ay) = pr t (bx - ax) (by' - ay)) := ⟨rfl⟩
    clear e5 e6 u1 u2 s1 s2 s3 s4 hs h1 h2 h3 h4
    generalize ax + sinZ (h + 64) = gx at *
    generalize ay + sinZ h = gy at *
    generalize bx - ax = x at *
    generalize by' - ay = y at *
    generalize sinZ (h + 64) = hx at *
    generalize sinZ h = hy at *
    generalize sinZ (t + 64) = tx at *
    generalize sinZ t = ty at *
    have e1 : IntKind.i64.wrap (tx * x) = tx * x := by rw [IntKind.wrap_i64]; omega
    have e2 : IntKind.i64.wrap (ty * y) = ty * y := by rw [IntKind.wrap_i64]; omega
    obtain ⟨q, hq⟩ : ∃ q, pr t x y = q := ⟨_, rfl⟩
    rw [hq] at HPT
    have HQ := Keep.mk hq
    have e3 : IntKind.i64.wrap (tx * x + ty * y) = q := by rw [IntKind.wrap_i64, ← HPT.out]; omega
    clear m1 m2 HPT hq
    have p0 := (HB.out.has _ _ _ (.tail _ (.head _))).cellv 0 _ rfl
    have p1 := (HB.out.has _ _ _ (.tail _ (.head _))).cellv 1 _ rfl
    have q0 := (HB.out.has _ _ _ (.head _)).cellv 0 _ rfl
    have q1 := (HB.out.has _ _ _ (.head _)).cellv 1 _ rfl
    go_wp2_with fail
    refine (c4 _ HB.out.k).mono ?_
    rintro e w1 ⟨rfl, hg⟩
    clear p0 p1 q0 q1
    replace HB := Keep.mk ((HB.out.kept hg).new x y)
    clear hg
    obtain ⟨b8, hb⟩ : ∃ b, w1.heap.size = b := ⟨_, rfl⟩
    obtain ⟨Wb8, hW⟩ : ∃ W, w1.alloc (.cells #[.int .i64 x, .int .i64 y] 25) = W := ⟨_, rfl⟩
    rw [hb, hW] at HB
    go_wp2_with fail
    refine (cu _ HB.out.k).mono ?_
    rintro e w1 ⟨rfl, hg⟩
    replace HB := Keep.mk ((HB.out.kept hg).new tx ty)
    clear hg
    obtain ⟨b9, hb⟩ : ∃ b, w1.heap.size = b := ⟨_, rfl⟩
    obtain ⟨Wb9, hW⟩ : ∃ W, w1.alloc (.cells #[.int .i64 tx, .int .i64 ty] 25) = W := ⟨_, rfl⟩
    rw [hb, hW] at HB
    have p0 := (HB.out.has _ _ _ (.head _)).cellv 0 _ rfl
    have p1 := (HB.out.has _ _ _ (.head _)).cellv 1 _ rfl
    have q0 := (HB.out.has _ _ _ (.tail _ (.head _))).cellv 0 _ rfl
    have q1 := (HB.out.has _ _ _ (.tail _ (.head _))).cellv 1 _ rfl
    go_wp2_with fail
    clear p0 p1 q0 q1 e1 e2 e3 c4 cu hb hW
    replace HB := Keep.mk HB.out.tail
    go_loopw [11, 12] (fun s11 s12 w' => ∃ (n : Int) (al : Bool), 0 ≤ n ∧ n ≤ 256 ∧ s11 = .bool al ∧ s12 = .int .i64 n ∧ Keep (Bx w w' [(b8, x, y), (b4, bx, by'), (b3, ax, ay)] ∧ (al = true → ∀ k, 0 ≤ k → k < n → k ≠ t → pr k x y < pr t x y))) (fun _ s12 _ => (256 - intOf s12).toNat)
    case atStart => exact ⟨0, true, by omega, by omega, rfl, rfl, ⟨HB.out, fun _ k k0 k1 => by omega⟩⟩
    case round =>
      clear HB
      obtain ⟨n, al, n0, n1, rfl, rfl, HI⟩ := hrel
      by_cases d : n < 256
      · cases al
        · skip
          by_cases d2 : n = t
          · skip
            subst d2
            have hp : pr n x y = q := HQ.out
            have HP : Keep (pr n x y = q ∧ pr n x y = q) := ⟨hp, HQ.out⟩
            have h1 := mul_bd _ x (sin_range (n + 64)) HX.out.1
            have h2 := mul_bd _ y (sin_range n) HX.out.2
            have e3 : sinZ (n + 64) * x + sinZ n * y = q := hp
            clear hp
            have cn := fun W (hk : Kc W) => unit_c n W hk
            generalize sinZ (n + 64) = u at *
            generalize sinZ n = v at *
            have e1 : IntKind.i64.wrap (u * x) = u * x := by rw [IntKind.wrap_i64]; omega
            have e2 : IntKind.i64.wrap (v * y) = v * y := by rw [IntKind.wrap_i64]; omega
            have e4 : IntKind.i64.wrap (u * x + v * y) = q := by rw [IntKind.wrap_i64, ← e3]; omega
            clear e3 h1 h2
            go_wp2_with fail
            refine (cn _ HI.out.1.k).mono ?_
            rintro e w3 ⟨rfl, hg⟩
            have HB3 := Keep.mk ((HI.out.1.kept hg).new u v)
            clear hg cn
            have x0 := (HB3.out.has _ _ _ (.head _)).cellv 0 _ rfl
            have x1 := (HB3.out.has _ _ _ (.head _)).cellv 1 _ rfl
            have y0 := (HB3.out.has _ _ _ (.tail _ (.head _))).cellv 0 _ rfl
            have y1 := (HB3.out.has _ _ _ (.tail _ (.head _))).cellv 1 _ rfl
            go_wp2_with fail
            refine ⟨⟨n + 1, false, by omega, by omega, by first | rfl | simp [d2], rfl, ⟨HB3.out.tail, fun h => by cases h⟩⟩, ?_⟩
            simp only [intOf]; omega
          · by_cases d3 : pr n x y < pr t x y
            · skip
              obtain ⟨p, hp⟩ : ∃ p, pr n x y = p := ⟨_, rfl⟩
              rw [hp, HQ.out] at d3
              have d4 : ¬ q < p := by omega
              have d5 : ¬ p = q := by omega
              have HP : Keep (pr n x y = p ∧ pr t x y = q) := ⟨hp, HQ.out⟩
              have h1 := mul_bd _ x (sin_range (n + 64)) HX.out.1
              have h2 := mul_bd _ y (sin_range n) HX.out.2
              have e3 : sinZ (n + 64) * x + sinZ n * y = p := hp
              clear hp
              have cn := fun W (hk : Kc W) => unit_c n W hk
              generalize sinZ (n + 64) = u at *
              generalize sinZ n = v at *
              have e1 : IntKind.i64.wrap (u * x) = u * x := by rw [IntKind.wrap_i64]; omega
              have e2 : IntKind.i64.wrap (v * y) = v * y := by rw [IntKind.wrap_i64]; omega
              have e4 : IntKind.i64.wrap (u * x + v * y) = p := by rw [IntKind.wrap_i64, ← e3]; omega
              clear e3 h1 h2
              go_wp2_with fail
              refine (cn _ HI.out.1.k).mono ?_
              rintro e w3 ⟨rfl, hg⟩
              have HB3 := Keep.mk ((HI.out.1.kept hg).new u v)
              clear hg cn
              have x0 := (HB3.out.has _ _ _ (.head _)).cellv 0 _ rfl
              have x1 := (HB3.out.has _ _ _ (.head _)).cellv 1 _ rfl
              have y0 := (HB3.out.has _ _ _ (.tail _ (.head _))).cellv 0 _ rfl
              have y1 := (HB3.out.has _ _ _ (.tail _ (.head _))).cellv 1 _ rfl
              go_wp2_with fail
              refine ⟨⟨n + 1, false, by omega, by omega, by first | rfl | simp [d2], rfl, ⟨HB3.out.tail, fun h => by cases h⟩⟩, ?_⟩
              simp only [intOf]; omega
            · replace d3 : pr n x y = pr t x y := by have := HT.out.le n n0 (by omega); omega
              have hp : pr n x y = q := by rw [d3, HQ.out]
              have d6 : ¬ n < t := fun c => by have := HT.out.lt n n0 c; omega
              have HP : Keep (pr n x y = q ∧ pr t x y = q) := ⟨hp, HQ.out⟩
              have h1 := mul_bd _ x (sin_range (n + 64)) HX.out.1
              have h2 := mul_bd _ y (sin_range n) HX.out.2
              have e3 : sinZ (n + 64) * x + sinZ n * y = q := hp
              clear hp
              have cn := fun W (hk : Kc W) => unit_c n W hk
              generalize sinZ (n + 64) = u at *
              generalize sinZ n = v at *
              have e1 : IntKind.i64.wrap (u * x) = u * x := by rw [IntKind.wrap_i64]; omega
              have e2 : IntKind.i64.wrap (v * y) = v * y := by rw [IntKind.wrap_i64]; omega
              have e4 : IntKind.i64.wrap (u * x + v * y) = q := by rw [IntKind.wrap_i64, ← e3]; omega
              clear e3 h1 h2
              go_wp2_with fail
              refine (cn _ HI.out.1.k).mono ?_
              rintro e w3 ⟨rfl, hg⟩
              have HB3 := Keep.mk ((HI.out.1.kept hg).new u v)
              clear hg cn
              have x0 := (HB3.out.has _ _ _ (.head _)).cellv 0 _ rfl
              have x1 := (HB3.out.has _ _ _ (.head _)).cellv 1 _ rfl
              have y0 := (HB3.out.has _ _ _ (.tail _ (.head _))).cellv 0 _ rfl
              have y1 := (HB3.out.has _ _ _ (.tail _ (.head _))).cellv 1 _ rfl
              go_wp2_with fail
              refine ⟨⟨n + 1, false, by omega, by omega, by first | rfl | simp [d2], rfl, ⟨HB3.out.tail, fun h => by cases h⟩⟩, ?_⟩
              simp only [intOf]; omega
        · skip
          by_cases d2 : n = t
          · skip
            subst d2
            have hp : pr n x y = q := HQ.out
            have HP : Keep (pr n x y = q ∧ pr n x y = q) := ⟨hp, HQ.out⟩
            have h1 := mul_bd _ x (sin_range (n + 64)) HX.out.1
            have h2 := mul_bd _ y (sin_range n) HX.out.2
            have e3 : sinZ (n + 64) * x + sinZ n * y = q := hp
            clear hp
            have cn := fun W (hk : Kc W) => unit_c n W hk
            generalize sinZ (n + 64) = u at *
            generalize sinZ n = v at *
            have e1 : IntKind.i64.wrap (u * x) = u * x := by rw [IntKind.wrap_i64]; omega
            have e2 : IntKind.i64.wrap (v * y) = v * y := by rw [IntKind.wrap_i64]; omega
            have e4 : IntKind.i64.wrap (u * x + v * y) = q := by rw [IntKind.wrap_i64, ← e3]; omega
            clear e3 h1 h2
            go_wp2_with fail
            refine (cn _ HI.out.1.k).mono ?_
            rintro e w3 ⟨rfl, hg⟩
            have HB3 := Keep.mk ((HI.out.1.kept hg).new u v)
            clear hg cn
            have x0 := (HB3.out.has _ _ _ (.head _)).cellv 0 _ rfl
            have x1 := (HB3.out.has _ _ _ (.head _)).cellv 1 _ rfl
            have y0 := (HB3.out.has _ _ _ (.tail _ (.head _))).cellv 0 _ rfl
            have y1 := (HB3.out.has _ _ _ (.tail _ (.head _))).cellv 1 _ rfl
            go_wp2_with fail
            refine ⟨⟨n + 1, true, by omega, by omega, by first | rfl | simp [d2], rfl, ⟨HB3.out.tail, fun h k k0 k1 ke => HI.out.2 (by first | trivial | exact h) k k0 (by omega) ke⟩⟩, ?_⟩
            simp only [intOf]; omega
          · by_cases d3 : pr n x y < pr t x y
            · skip
              obtain ⟨p, hp⟩ : ∃ p, pr n x y = p := ⟨_, rfl⟩
              rw [hp, HQ.out] at d3
              have d4 : ¬ q < p := by omega
              have d5 : ¬ p = q := by omega
              have HP : Keep (pr n x y = p ∧ pr t x y = q) := ⟨hp, HQ.out⟩
              have h1 := mul_bd _ x (sin_range (n + 64)) HX.out.1
              have h2 := mul_bd _ y (sin_range n) HX.out.2
              have e3 : sinZ (n + 64) * x + sinZ n * y = p := hp
              clear hp
              have cn := fun W (hk : Kc W) => unit_c n W hk
              generalize sinZ (n + 64) = u at *
              generalize sinZ n = v at *
              have e1 : IntKind.i64.wrap (u * x) = u * x := by rw [IntKind.wrap_i64]; omega
              have e2 : IntKind.i64.wrap (v * y) = v * y := by rw [IntKind.wrap_i64]; omega
              have e4 : IntKind.i64.wrap (u * x + v * y) = p := by rw [IntKind.wrap_i64, ← e3]; omega
              clear e3 h1 h2
              go_wp2_with fail
              refine (cn _ HI.out.1.k).mono ?_
              rintro e w3 ⟨rfl, hg⟩
              have HB3 := Keep.mk ((HI.out.1.kept hg).new u v)
              clear hg cn
              have x0 := (HB3.out.has _ _ _ (.head _)).cellv 0 _ rfl
              have x1 := (HB3.out.has _ _ _ (.head _)).cellv 1 _ rfl
              have y0 := (HB3.out.has _ _ _ (.tail _ (.head _))).cellv 0 _ rfl
              have y1 := (HB3.out.has _ _ _ (.tail _ (.head _))).cellv 1 _ rfl
              go_wp2_with fail
              refine ⟨⟨n + 1, true, by omega, by omega, by first | rfl | simp [d2], rfl, ⟨HB3.out.tail, fun h k k0 k1 ke => by
                by_cases c : k = n
                · rw [c, HP.out.1, HP.out.2]; exact d3
                · exact HI.out.2 (by first | trivial | exact h) k k0 (by omega) ke⟩⟩, ?_⟩
              simp only [intOf]; omega
            · replace d3 : pr n x y = pr t x y := by have := HT.out.le n n0 (by omega); omega
              have hp : pr n x y = q := by rw [d3, HQ.out]
              have d6 : ¬ n < t := fun c => by have := HT.out.lt n n0 c; omega
              have HP : Keep (pr n x y = q ∧ pr t x y = q) := ⟨hp, HQ.out⟩
              have h1 := mul_bd _ x (sin_range (n + 64)) HX.out.1
              have h2 := mul_bd _ y (sin_range n) HX.out.2
              have e3 : sinZ (n + 64) * x + sinZ n * y = q := hp
              clear hp
              have cn := fun W (hk : Kc W) => unit_c n W hk
              generalize sinZ (n + 64) = u at *
              generalize sinZ n = v at *
              have e1 : IntKind.i64.wrap (u * x) = u * x := by rw [IntKind.wrap_i64]; omega
              have e2 : IntKind.i64.wrap (v * y) = v * y := by rw [IntKind.wrap_i64]; omega
              have e4 : IntKind.i64.wrap (u * x + v * y) = q := by rw [IntKind.wrap_i64, ← e3]; omega
              clear e3 h1 h2
              go_wp2_with fail
              refine (cn _ HI.out.1.k).mono ?_
              rintro e w3 ⟨rfl, hg⟩
              have HB3 := Keep.mk ((HI.out.1.kept hg).new u v)
              clear hg cn
              have x0 := (HB3.out.has _ _ _ (.head _)).cellv 0 _ rfl
              have x1 := (HB3.out.has _ _ _ (.head _)).cellv 1 _ rfl
              have y0 := (HB3.out.has _ _ _ (.tail _ (.head _))).cellv 0 _ rfl
              have y1 := (HB3.out.has _ _ _ (.tail _ (.head _))).cellv 1 _ rfl
              go_wp2_with fail
              refine ⟨⟨n + 1, false, by omega, by omega, by first | rfl | simp [d2], rfl, ⟨HB3.out.tail, fun h => by cases h⟩⟩, ?_⟩
              simp only [intOf]; omega
      · obtain rfl : n = 256 := by omega
        have HB := Keep.mk HI.out.1
        cases al
        · have x0 := (HB.out.has _ _ _ (.tail _ (.tail _ (.head _)))).cellv 0 _ rfl
          go_wp2_with fail
          clear x0
          refine wp_region_held_drew (S := fun w' => Bx w w' [(b8, x, y), (b4, bx, by'), (b3, ax, ay)]) (by kernel_rfl) (HB.out.kept (gr_drew _ _)) (fun hHeld => ?_)
          replace HB := Keep.mk hHeld
          refine wpAnyH_take (i := 0) (oi := _) (v := ?_) rfl (by kernel_rfl) (by kernel_rfl) (by kernel_rfl) (fun _ _ _ h => h) (Or.inl ⟨by rfl, ?_⟩) (by assumption) ?_
          rotate_left
          · (intro w hSw; have q0 := (hSw.has _ _ _ (.tail _ (.tail _ (.head _)))).cellv 0 _ rfl; have q1 := (hSw.has _ _ _ (.tail _ (.tail _ (.head _)))).cellv 1 _ rfl; go_simp; first | done | (with_reducible rfl))
          simp only [Act.put, List.getElem_toArray, List.getElem_cons_zero, List.setIfInBounds_toArray, List.set_cons_zero, List.set_cons_succ]
          refine wpAnyH_take (i := 1) (oi := _) (v := ?_) rfl (by kernel_rfl) (by kernel_rfl) (by kernel_rfl) (fun _ _ _ h => h) (Or.inl ⟨by rfl, ?_⟩) (by assumption) ?_
          rotate_left
          · (intro w hSw; have q0 := (hSw.has _ _ _ (.tail _ (.tail _ (.head _)))).cellv 0 _ rfl; have q1 := (hSw.has _ _ _ (.tail _ (.tail _ (.head _)))).cellv 1 _ rfl; go_simp; first | done | (with_reducible rfl))
          simp only [Act.put, List.getElem_toArray, List.getElem_cons_succ, List.getElem_cons_zero, List.setIfInBounds_toArray, List.set_cons_zero, List.set_cons_succ]
          refine wpAnyH_take (i := 2) (oi := _) (v := ?_) rfl (by kernel_rfl) (by kernel_rfl) (by kernel_rfl) (fun _ _ _ h => h) (Or.inl ⟨by rfl, ?_⟩) (by assumption) ?_
          rotate_left
          · (intro w hSw; go_simp; first | done | (with_reducible rfl))
          simp only [Act.put, List.getElem_toArray, List.getElem_cons_succ, List.getElem_cons_zero, List.setIfInBounds_toArray, List.set_cons_zero, List.set_cons_succ]
          refine wpAnyH_take (i := 6) (oi := _) (v := ?_) rfl (by kernel_rfl) (by kernel_rfl) (by kernel_rfl) (fun _ _ _ h => h) (Or.inl ⟨by rfl, ?_⟩) (by assumption) ?_
          rotate_left
          · (intro w hSw; go_simp; first | done | (with_reducible rfl))
          simp only [Act.put, List.getElem_toArray, List.getElem_cons_succ, List.getElem_cons_zero, List.setIfInBounds_toArray, List.set_cons_zero, List.set_cons_succ]
          refine wpAnyH_ready (rs := [3]) (by kernel_rfl) (by simp) ?_
          refine AllReadyH.cons rfl (fun K hK => ?_) AllReadyH.nil
          go_simp
          refine (cuh _ HB.out.k).mono ?_
          rintro e wg ⟨rfl, hg⟩
          replace HB := Keep.mk (HB.out.kept hg)
          refine hK.out _ _ HB.out (fun hHeld => ?_)
          clear hK K hg
          refine wpAnyH_ready (rs := [4]) (by kernel_rfl) (by simp) ?_
          refine AllReadyH.cons rfl (fun K hK => ?_) AllReadyH.nil
          go_simp
          refine (cad _).mono ?_
          rintro e wg ⟨rfl, hg⟩
          replace HB := Keep.mk (HB.out.kept hg)
          refine hK.out _ _ HB.out (fun hHeld => ?_)
          clear hK K hg
          refine wpAnyH_ready (rs := [5]) (by kernel_rfl) (by simp) ?_
          refine AllReadyH.cons rfl (fun K hK => ?_) AllReadyH.nil
          go_simp
          refine (cth _ HB.out.k).mono ?_
          rintro e wg ⟨rfl, hg⟩
          replace HB := Keep.mk (HB.out.kept hg)
          refine hK.out _ _ HB.out (fun hHeld => ?_)
          clear hK K hg
          refine wpAnyH_call (i := 7) (oi := _) (v := .int .i64 (h % 256)) rfl (by kernel_rfl) (by kernel_rfl) (by kernel_rfl) (fun _ _ _ h => h) ⟨by rfl, 9, #[.int .i64 h, .int .i64 0], fun w => ?_, fun w hSw => ch w⟩ (by assumption) ?_
          · (go_simp; first | done | (with_reducible rfl))
          simp only [Act.put, List.getElem_toArray, List.getElem_cons_succ, List.getElem_cons_zero, List.setIfInBounds_toArray, List.set_cons_zero, List.set_cons_succ]
          refine wpAnyH_take (i := 8) (oi := _) (v := ?_) rfl (by kernel_rfl) (by kernel_rfl) (by kernel_rfl) (fun _ _ _ h => h) (Or.inl ⟨by rfl, ?_⟩) (by assumption) ?_
          rotate_left
          · (intro w hSw; go_simp; first | done | (with_reducible rfl))
          simp only [Act.put, List.getElem_toArray, List.getElem_cons_succ, List.getElem_cons_zero, List.setIfInBounds_toArray, List.set_cons_zero, List.set_cons_succ]
          refine wpAnyH_ready (rs := [9]) (by kernel_rfl) (by simp) ?_
          refine AllReadyH.cons rfl (fun K hK => ?_) AllReadyH.nil
          go_simp
          refine hK.out _ _ HB.out (fun hHeld => ?_)
          clear hK K hHeld
          refine wpAnyH_done (by kernel_rfl) ?_ _
          go_wp2_with fail
          go_ret
          exact ⟨rfl, HB.out.g⟩
        · have HA := tow_back x y t HT.out (HI.out.2 rfl)
          rw [HA] at c5
          clear HA HI
          generalize (t + 128) % 256 = tb at *
          have p0 := (HB.out.has _ _ _ (.tail _ (.head _))).cellv 0 _ rfl
          have p1 := (HB.out.has _ _ _ (.tail _ (.head _))).cellv 1 _ rfl
          have q0 := (HB.out.has _ _ _ (.tail _ (.tail _ (.head _)))).cellv 0 _ rfl
          have q1 := (HB.out.has _ _ _ (.tail _ (.tail _ (.head _)))).cellv 1 _ rfl
          go_wp2_with fail
          refine (c5 _ HB.out.k).mono ?_
          rintro e w1 ⟨rfl, hg⟩
          replace HB := Keep.mk (HB.out.kept hg)
          clear hg p0 p1 q0 q1
          go_wp2_with fail
          refine (ct _).mono ?_
          rintro e w' ⟨rfl, hw⟩; rw [hw]; clear hw w'
          go_wp2_with fail
          refine wp_region_held_drew (S := fun w' => Bx w w' [(b8, x, y), (b4, bx, by'), (b3, ax, ay)]) (by kernel_rfl) (HB.out.kept (gr_drew _ _)) (fun hHeld => ?_)
          replace HB := Keep.mk hHeld
          refine wpAnyH_take (i := 0) (oi := _) (v := ?_) rfl (by kernel_rfl) (by kernel_rfl) (by kernel_rfl) (fun _ _ _ h => h) (Or.inl ⟨by rfl, ?_⟩) (by assumption) ?_
          rotate_left
          · (intro w hSw; have q0 := (hSw.has _ _ _ (.tail _ (.tail _ (.head _)))).cellv 0 _ rfl; have q1 := (hSw.has _ _ _ (.tail _ (.tail _ (.head _)))).cellv 1 _ rfl; go_simp; first | done | (with_reducible rfl))
          simp only [Act.put, List.getElem_toArray, List.getElem_cons_zero, List.setIfInBounds_toArray, List.set_cons_zero, List.set_cons_succ]
          refine wpAnyH_take (i := 1) (oi := _) (v := ?_) rfl (by kernel_rfl) (by kernel_rfl) (by kernel_rfl) (fun _ _ _ h => h) (Or.inl ⟨by rfl, ?_⟩) (by assumption) ?_
          rotate_left
          · (intro w hSw; have q0 := (hSw.has _ _ _ (.tail _ (.tail _ (.head _)))).cellv 0 _ rfl; have q1 := (hSw.has _ _ _ (.tail _ (.tail _ (.head _)))).cellv 1 _ rfl; go_simp; first | done | (with_reducible rfl))
          simp only [Act.put, List.getElem_toArray, List.getElem_cons_succ, List.getElem_cons_zero, List.setIfInBounds_toArray, List.set_cons_zero, List.set_cons_succ]
          refine wpAnyH_take (i := 2) (oi := _) (v := ?_) rfl (by kernel_rfl) (by kernel_rfl) (by kernel_rfl) (fun _ _ _ h => h) (Or.inl ⟨by rfl, ?_⟩) (by assumption) ?_
          rotate_left
          · (intro w hSw; go_simp; first | done | (with_reducible rfl))
          simp only [Act.put, List.getElem_toArray, List.getElem_cons_succ, List.getElem_cons_zero, List.setIfInBounds_toArray, List.set_cons_zero, List.set_cons_succ]
          refine wpAnyH_take (i := 6) (oi := _) (v := ?_) rfl (by kernel_rfl) (by kernel_rfl) (by kernel_rfl) (fun _ _ _ h => h) (Or.inl ⟨by rfl, ?_⟩) (by assumption) ?_
          rotate_left
          · (intro w hSw; go_simp; first | done | (with_reducible rfl))
          simp only [Act.put, List.getElem_toArray, List.getElem_cons_succ, List.getElem_cons_zero, List.setIfInBounds_toArray, List.set_cons_zero, List.set_cons_succ]
          refine wpAnyH_ready (rs := [3]) (by kernel_rfl) (by simp) ?_
          refine AllReadyH.cons rfl (fun K hK => ?_) AllReadyH.nil
          go_simp
          refine (cuh _ HB.out.k).mono ?_
          rintro e wg ⟨rfl, hg⟩
          replace HB := Keep.mk (HB.out.kept hg)
          refine hK.out _ _ HB.out (fun hHeld => ?_)
          clear hK K hg
          refine wpAnyH_ready (rs := [4]) (by kernel_rfl) (by simp) ?_
          refine AllReadyH.cons rfl (fun K hK => ?_) AllReadyH.nil
          go_simp
          refine (cad _).mono ?_
          rintro e wg ⟨rfl, hg⟩
          replace HB := Keep.mk (HB.out.kept hg)
          refine hK.out _ _ HB.out (fun hHeld => ?_)
          clear hK K hg
          refine wpAnyH_ready (rs := [5]) (by kernel_rfl) (by simp) ?_
          refine AllReadyH.cons rfl (fun K hK => ?_) AllReadyH.nil
          go_simp
          refine (cth _ HB.out.k).mono ?_
          rintro e wg ⟨rfl, hg⟩
          replace HB := Keep.mk (HB.out.kept hg)
          refine hK.out _ _ HB.out (fun hHeld => ?_)
          clear hK K hg
          refine wpAnyH_call (i := 7) (oi := _) (v := .int .i64 (h % 256)) rfl (by kernel_rfl) (by kernel_rfl) (by kernel_rfl) (fun _ _ _ h => h) ⟨by rfl, 9, #[.int .i64 h, .int .i64 0], fun w => ?_, fun w hSw => ch w⟩ (by assumption) ?_
          · (go_simp; first | done | (with_reducible rfl))
          simp only [Act.put, List.getElem_toArray, List.getElem_cons_succ, List.getElem_cons_zero, List.setIfInBounds_toArray, List.set_cons_zero, List.set_cons_succ]
          refine wpAnyH_take (i := 8) (oi := _) (v := ?_) rfl (by kernel_rfl) (by kernel_rfl) (by kernel_rfl) (fun _ _ _ h => h) (Or.inl ⟨by rfl, ?_⟩) (by assumption) ?_
          rotate_left
          · (intro w hSw; go_simp; first | done | (with_reducible rfl))
          simp only [Act.put, List.getElem_toArray, List.getElem_cons_succ, List.getElem_cons_zero, List.setIfInBounds_toArray, List.set_cons_zero, List.set_cons_succ]
          refine wpAnyH_ready (rs := [9]) (by kernel_rfl) (by simp) ?_
          refine AllReadyH.cons rfl (fun K hK => ?_) AllReadyH.nil
          go_simp
          refine hK.out _ _ HB.out (fun hHeld => ?_)
          clear hK K hHeld
          refine wpAnyH_done (by kernel_rfl) ?_ _
          go_wp2_with fail
          go_ret
          exact ⟨rfl, HB.out.g⟩
end Go.Proofs.YtkpedhmjjhjniaaDoor
