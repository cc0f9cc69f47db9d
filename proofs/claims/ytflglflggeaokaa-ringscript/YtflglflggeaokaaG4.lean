/- the laws' step: a pop, at, a range, what is none of them. -/
import Derived.Test.YtflglflggeaokaaG3
namespace Go.Proofs.Ytflglflggeaokaa
open Go Go.RowKit Go.Shelf

theorem RG.later {w0 w W : World} {rb : Nat} {v0 v : Value} {db : Nat} {a0 a : Option Addr} {sz : Nat} {QR QD : List Int} (h : RG w W rb v db a sz QR QD [] []) (f : Fr (fun i => RF rb v0 i ∨ DF db a0 i) w0 w) (h1 : ∀ i, RF rb v i → RF rb v0 i ∨ w0.heap.size ≤ i) (h2 : ∀ i, DF db a i → DF db a0 i ∨ w0.heap.size ≤ i) : RG w0 W rb v0 db a0 sz QR QD [] [] := by
  obtain ⟨v', a', c, r, d, q1, q2, q3, q4⟩ := h.e
  have hs := f.size
  refine ⟨⟨v', a', c, r, d, fun i hi => ?_, fun i hi => ?_, q3, q4⟩, h.x, fun p hp => (by cases hp), h.d, f.then h.f (fun i hi => ?_)⟩
  · rcases q1 i hi with q | q
    · exact h1 i q
    · exact .inr (by omega)
  · rcases q2 i hi with q | q
    · exact h2 i q
    · exact .inr (by omega)
  · rcases hi with q | q
    · rcases h1 i q with q | q
      · exact .inl (.inl q)
      · exact .inr q
    · rcases h2 i q with q | q
      · exact .inl (.inr q)
      · exact .inr q

set_option maxRecDepth 100000 in
set_option maxHeartbeats 4000000 in
theorem step_pop (pb rb db : Nat) (v : Value) (a : Option Addr) (sz : Nat) (L : List Int) (At N : Int) (W : World) (h : PR W pb (which At) rb v db a sz L) :
    Calls Try.prog 24 #[.pointer (some ⟨pb, 0, none⟩), .agg #[.int .i64 3, .int .i64 At, .int .i64 N]] W fun e W' => e = .returned (.bool true) ∧ ∃ Q, RG W W' rb v db a sz Q Q [] [] := by
  have HR : Keep (PR W pb (which At) rb v db a sz L) := ⟨h⟩
  have H0 := (RG.start h.p).add (World.grownBy_alloc W (.cells #[.int .i64 3, .int .i64 At, .int .i64 N] 61) none) (Has.newA W #[.int .i64 3, .int .i64 At, .int .i64 N] 61) (Nat.le_refl _)
  clear h
  have hc0 : (W.alloc (.cells #[.int .i64 3, .int .i64 At, .int .i64 N] 61)).cell? ⟨pb, which At, none⟩ = some (.pointer (some ⟨rb, 0, none⟩)) := by rw [World.cell?_alloc_lt _ _ _ HR.out.lt]; exact HR.out.r
  have hc1 : (W.alloc (.cells #[.int .i64 3, .int .i64 At, .int .i64 N] 61)).cell? ⟨pb, 2 + which At, none⟩ = some (.pointer (some ⟨db, 0, none⟩)) := by rw [World.cell?_alloc_lt _ _ _ HR.out.lt]; exact HR.out.d
  obtain ⟨W1, hW1⟩ : ∃ W1, W.alloc (.cells #[.int .i64 3, .int .i64 At, .int .i64 N] 61) = W1 := ⟨_, rfl⟩
  obtain ⟨ob, hob⟩ : ∃ ob, W.heap.size = ob := ⟨_, rfl⟩
  rw [hob] at H0
  rw [hW1] at H0 hc0 hc1
  have HG : Keep (RG W W1 rb v db a sz L L [(ob, [.int .i64 3, .int .i64 At, .int .i64 N], 61)] []) := ⟨H0⟩
  have HO : Keep (∀ (W' : World) (A B : List Int), RG W W' rb v db a sz A B [(ob, [.int .i64 3, .int .i64 At, .int .i64 N], 61)] [] → W'.cell? ⟨ob, 2, none⟩ = some (.int .i64 N)) := ⟨fun W' A B h => h.cellAt ob _ 61 (List.mem_singleton.2 rfl) 2 _ rfl⟩
  have o0 : W1.cell? ⟨ob, 0, none⟩ = some (.int .i64 3) := HG.out.cellAt ob _ 61 (List.mem_singleton.2 rfl) 0 _ rfl
  have o1 : W1.cell? ⟨ob, 1, none⟩ = some (.int .i64 At) := HG.out.cellAt ob _ 61 (List.mem_singleton.2 rfl) 1 _ rfl
  have o2 : W1.cell? ⟨ob, 2, none⟩ = some (.int .i64 N) := HG.out.cellAt ob _ 61 (List.mem_singleton.2 rfl) 2 _ rfl
  clear H0
  go_enter Try.func24, Try.ntmps24
  rcases which_or At with ⟨hwh, hat⟩ | ⟨hwh, hat⟩
  all_goals
    rw [hwh] at hc0 hc1
    go_wp2_with fail
    clear hc0 hc1 o0 o1 hW1 hob hat hwh
    obtain ⟨y, hy⟩ : ∃ y, popVal L = y := ⟨_, rfl⟩
    obtain ⟨b, hb⟩ : ∃ b, popOk L = b := ⟨_, rfl⟩
    refine (rg_pop_any HG.out).mono ?_
    rintro e W3 ⟨rfl, h3⟩
    have H3 : Keep (RG W W3 rb v db a sz L.tail L [(ob, [.int .i64 3, .int .i64 At, .int .i64 N], 61)] []) := ⟨h3⟩
    clear h3
    rw [hy, hb]
    go_wp2_with fail
    refine (rg_dpop_any H3.out).mono ?_
    rintro e W4 ⟨rfl, h4⟩
    have HE : Keep (RG W W4 rb v db a sz L.tail L.tail [] []) := ⟨h4.sub (fun p hp => by cases hp) (fun p hp => hp)⟩
    clear h4 H3 HG o2
    rw [hy, hb]
    go_wp2_with fail
    go_ret
    exact ⟨by simp, _, HE.out⟩

set_option maxRecDepth 100000 in
set_option maxHeartbeats 4000000 in
theorem step_at (pb rb db : Nat) (v : Value) (a : Option Addr) (sz : Nat) (L : List Int) (At N : Int) (W : World) (h : PR W pb (which At) rb v db a sz L) :
    Calls Try.prog 24 #[.pointer (some ⟨pb, 0, none⟩), .agg #[.int .i64 4, .int .i64 At, .int .i64 N]] W fun e W' => e = .returned (.bool true) ∧ ∃ Q, RG W W' rb v db a sz Q Q [] [] := by
  have HR : Keep (PR W pb (which At) rb v db a sz L) := ⟨h⟩
  have H0 := (RG.start h.p).add (World.grownBy_alloc W (.cells #[.int .i64 4, .int .i64 At, .int .i64 N] 61) none) (Has.newA W #[.int .i64 4, .int .i64 At, .int .i64 N] 61) (Nat.le_refl _)
  clear h
  have hc0 : (W.alloc (.cells #[.int .i64 4, .int .i64 At, .int .i64 N] 61)).cell? ⟨pb, which At, none⟩ = some (.pointer (some ⟨rb, 0, none⟩)) := by rw [World.cell?_alloc_lt _ _ _ HR.out.lt]; exact HR.out.r
  have hc1 : (W.alloc (.cells #[.int .i64 4, .int .i64 At, .int .i64 N] 61)).cell? ⟨pb, 2 + which At, none⟩ = some (.pointer (some ⟨db, 0, none⟩)) := by rw [World.cell?_alloc_lt _ _ _ HR.out.lt]; exact HR.out.d
  obtain ⟨W1, hW1⟩ : ∃ W1, W.alloc (.cells #[.int .i64 4, .int .i64 At, .int .i64 N] 61) = W1 := ⟨_, rfl⟩
  obtain ⟨ob, hob⟩ : ∃ ob, W.heap.size = ob := ⟨_, rfl⟩
  rw [hob] at H0
  rw [hW1] at H0 hc0 hc1
  have HG : Keep (RG W W1 rb v db a sz L L [(ob, [.int .i64 4, .int .i64 At, .int .i64 N], 61)] []) := ⟨H0⟩
  have HO : Keep (∀ (W' : World) (A B : List Int), RG W W' rb v db a sz A B [(ob, [.int .i64 4, .int .i64 At, .int .i64 N], 61)] [] → W'.cell? ⟨ob, 2, none⟩ = some (.int .i64 N)) := ⟨fun W' A B h => h.cellAt ob _ 61 (List.mem_singleton.2 rfl) 2 _ rfl⟩
  have o0 : W1.cell? ⟨ob, 0, none⟩ = some (.int .i64 4) := HG.out.cellAt ob _ 61 (List.mem_singleton.2 rfl) 0 _ rfl
  have o1 : W1.cell? ⟨ob, 1, none⟩ = some (.int .i64 At) := HG.out.cellAt ob _ 61 (List.mem_singleton.2 rfl) 1 _ rfl
  have o2 : W1.cell? ⟨ob, 2, none⟩ = some (.int .i64 N) := HG.out.cellAt ob _ 61 (List.mem_singleton.2 rfl) 2 _ rfl
  clear H0
  go_enter Try.func24, Try.ntmps24
  rcases which_or At with ⟨hwh, hat⟩ | ⟨hwh, hat⟩
  all_goals
    rw [hwh] at hc0 hc1
    go_wp2_with fail
    clear hc0 hc1 o0 o1 hW1 hob hat hwh
    obtain ⟨y, hy⟩ : ∃ y, atVal L N = y := ⟨_, rfl⟩
    obtain ⟨b, hb⟩ : ∃ b, atOk L N = b := ⟨_, rfl⟩
    refine (rg_at_any HG.out N).mono ?_
    rintro e W3 ⟨rfl, h3⟩
    have H3 : Keep (RG W W3 rb v db a sz L L [(ob, [.int .i64 4, .int .i64 At, .int .i64 N], 61)] []) := ⟨h3⟩
    have o3 := HO.out _ _ _ h3
    clear h3
    rw [hy, hb]
    go_wp2_with fail
    refine (rg_dat_any H3.out N).mono ?_
    rintro e W4 ⟨rfl, h4⟩
    have HE : Keep (RG W W4 rb v db a sz L L [] []) := ⟨h4.sub (fun p hp => by cases hp) (fun p hp => hp)⟩
    clear h4 H3 HG o2 o3
    rw [hy, hb]
    go_wp2_with fail
    go_ret
    exact ⟨by simp, _, HE.out⟩

set_option maxRecDepth 100000 in
set_option maxHeartbeats 4000000 in
theorem step_all (pb rb db : Nat) (v : Value) (a : Option Addr) (sz : Nat) (L : List Int) (At N : Int) (W : World) (h : PR W pb (which At) rb v db a sz L) :
    Calls Try.prog 24 #[.pointer (some ⟨pb, 0, none⟩), .agg #[.int .i64 6, .int .i64 At, .int .i64 N]] W fun e W' => e = .returned (.bool true) ∧ ∃ Q, RG W W' rb v db a sz Q Q [] [] := by
  have HR : Keep (PR W pb (which At) rb v db a sz L) := ⟨h⟩
  have H0 := (RG.start h.p).add (World.grownBy_alloc W (.cells #[.int .i64 6, .int .i64 At, .int .i64 N] 61) none) (Has.newA W #[.int .i64 6, .int .i64 At, .int .i64 N] 61) (Nat.le_refl _)
  clear h
  have hc0 : (W.alloc (.cells #[.int .i64 6, .int .i64 At, .int .i64 N] 61)).cell? ⟨pb, which At, none⟩ = some (.pointer (some ⟨rb, 0, none⟩)) := by rw [World.cell?_alloc_lt _ _ _ HR.out.lt]; exact HR.out.r
  have hc1 : (W.alloc (.cells #[.int .i64 6, .int .i64 At, .int .i64 N] 61)).cell? ⟨pb, 2 + which At, none⟩ = some (.pointer (some ⟨db, 0, none⟩)) := by rw [World.cell?_alloc_lt _ _ _ HR.out.lt]; exact HR.out.d
  obtain ⟨W1, hW1⟩ : ∃ W1, W.alloc (.cells #[.int .i64 6, .int .i64 At, .int .i64 N] 61) = W1 := ⟨_, rfl⟩
  obtain ⟨ob, hob⟩ : ∃ ob, W.heap.size = ob := ⟨_, rfl⟩
  rw [hob] at H0
  rw [hW1] at H0 hc0 hc1
  have HG : Keep (RG W W1 rb v db a sz L L [(ob, [.int .i64 6, .int .i64 At, .int .i64 N], 61)] []) := ⟨H0⟩
  have HO : Keep (∀ (W' : World) (A B : List Int), RG W W' rb v db a sz A B [(ob, [.int .i64 6, .int .i64 At, .int .i64 N], 61)] [] → W'.cell? ⟨ob, 2, none⟩ = some (.int .i64 N)) := ⟨fun W' A B h => h.cellAt ob _ 61 (List.mem_singleton.2 rfl) 2 _ rfl⟩
  have o0 : W1.cell? ⟨ob, 0, none⟩ = some (.int .i64 6) := HG.out.cellAt ob _ 61 (List.mem_singleton.2 rfl) 0 _ rfl
  have o1 : W1.cell? ⟨ob, 1, none⟩ = some (.int .i64 At) := HG.out.cellAt ob _ 61 (List.mem_singleton.2 rfl) 1 _ rfl
  have o2 : W1.cell? ⟨ob, 2, none⟩ = some (.int .i64 N) := HG.out.cellAt ob _ 61 (List.mem_singleton.2 rfl) 2 _ rfl
  clear H0
  go_enter Try.func24, Try.ntmps24
  rcases which_or At with ⟨hwh, hat⟩ | ⟨hwh, hat⟩
  all_goals
    rw [hwh] at hc0 hc1
    go_wp2_with fail
    clear hc0 hc1 o0 o1 hW1 hob hat hwh
    obtain ⟨v1, a1, c1, r1, d1, q1, q2, q3, _⟩ := HG.out.e
    refine (ranged_c rb db v1 sz L a1 c1 N _ r1 d1 q3).mono ?_
    rintro e W3 ⟨rfl, Q, h3⟩
    have HE : Keep (RG W W3 rb v db a sz Q Q [] []) := ⟨h3.later HG.out.f q1 q2⟩
    clear h3 HG o2 HO HR r1 d1 q1 q2 q3
    go_wp2_with fail
    go_ret
    exact ⟨rfl, _, HE.out⟩

set_option maxRecDepth 100000 in
set_option maxHeartbeats 4000000 in
theorem step_other (pb rb db : Nat) (v : Value) (a : Option Addr) (sz : Nat) (L : List Int) (At N : Int) (W : World) (h : PR W pb (which At) rb v db a sz L) (kd : Int) (hk : kd ≠ 1 ∧ kd ≠ 2 ∧ kd ≠ 3 ∧ kd ≠ 4 ∧ kd ≠ 5 ∧ kd ≠ 6) :
    Calls Try.prog 24 #[.pointer (some ⟨pb, 0, none⟩), .agg #[.int .i64 kd, .int .i64 At, .int .i64 N]] W fun e W' => e = .returned (.bool true) ∧ ∃ Q, RG W W' rb v db a sz Q Q [] [] := by
  obtain ⟨k1, k2, k3, k4, k5, k6⟩ := hk
  have HR : Keep (PR W pb (which At) rb v db a sz L) := ⟨h⟩
  have H0 := (RG.start h.p).add (World.grownBy_alloc W (.cells #[.int .i64 kd, .int .i64 At, .int .i64 N] 61) none) (Has.newA W #[.int .i64 kd, .int .i64 At, .int .i64 N] 61) (Nat.le_refl _)
  clear h
  have hc0 : (W.alloc (.cells #[.int .i64 kd, .int .i64 At, .int .i64 N] 61)).cell? ⟨pb, which At, none⟩ = some (.pointer (some ⟨rb, 0, none⟩)) := by rw [World.cell?_alloc_lt _ _ _ HR.out.lt]; exact HR.out.r
  have hc1 : (W.alloc (.cells #[.int .i64 kd, .int .i64 At, .int .i64 N] 61)).cell? ⟨pb, 2 + which At, none⟩ = some (.pointer (some ⟨db, 0, none⟩)) := by rw [World.cell?_alloc_lt _ _ _ HR.out.lt]; exact HR.out.d
  obtain ⟨W1, hW1⟩ : ∃ W1, W.alloc (.cells #[.int .i64 kd, .int .i64 At, .int .i64 N] 61) = W1 := ⟨_, rfl⟩
  obtain ⟨ob, hob⟩ : ∃ ob, W.heap.size = ob := ⟨_, rfl⟩
  rw [hob] at H0
  rw [hW1] at H0 hc0 hc1
  have HG : Keep (RG W W1 rb v db a sz L L [(ob, [.int .i64 kd, .int .i64 At, .int .i64 N], 61)] []) := ⟨H0⟩
  have HO : Keep (∀ (W' : World) (A B : List Int), RG W W' rb v db a sz A B [(ob, [.int .i64 kd, .int .i64 At, .int .i64 N], 61)] [] → W'.cell? ⟨ob, 2, none⟩ = some (.int .i64 N)) := ⟨fun W' A B h => h.cellAt ob _ 61 (List.mem_singleton.2 rfl) 2 _ rfl⟩
  have o0 : W1.cell? ⟨ob, 0, none⟩ = some (.int .i64 kd) := HG.out.cellAt ob _ 61 (List.mem_singleton.2 rfl) 0 _ rfl
  have o1 : W1.cell? ⟨ob, 1, none⟩ = some (.int .i64 At) := HG.out.cellAt ob _ 61 (List.mem_singleton.2 rfl) 1 _ rfl
  have o2 : W1.cell? ⟨ob, 2, none⟩ = some (.int .i64 N) := HG.out.cellAt ob _ 61 (List.mem_singleton.2 rfl) 2 _ rfl
  clear H0
  go_enter Try.func24, Try.ntmps24
  rcases which_or At with ⟨hwh, hat⟩ | ⟨hwh, hat⟩
  all_goals
    rw [hwh] at hc0 hc1
    go_wp2_with fail
    clear hc0 hc1 o0 o1 hW1 hob hat hwh
    go_ret
    exact ⟨rfl, L, HG.out.sub (fun p hp => by cases hp) (fun p hp => hp)⟩
end Go.Proofs.Ytflglflggeaokaa
