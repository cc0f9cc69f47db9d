/- the laws' step: a new ring; any step. -/
import Derived.Test.YtflglflggeaokaaG6
namespace Go.Proofs.Ytflglflggeaokaa
open Go Go.RowKit Go.Shelf

set_option maxRecDepth 100000 in
set_option maxHeartbeats 4000000 in
theorem step_new (pb : Nat) (cs : List Value) (At N : Int) (W : World) (h : Has W pb cs 57) (hl : cs.length = 6) :
    Calls Try.prog 24 #[.pointer (some ⟨pb, 0, none⟩), .agg #[.int .i64 1, .int .i64 At, .int .i64 N]] W fun e W' => e = .returned (.bool true) ∧ (W.grownBy W' none ∨ ∃ sz rb db w2, W.grownBy w2 none ∧ (pairO rb (.slice none 0 0) db none sz [] []).P w2 ∧ W.heap.size ≤ rb ∧ W.heap.size ≤ db ∧ W' = (w2.setCell ⟨pb, which At, none⟩ (.pointer (some ⟨rb, 0, none⟩))).setCell ⟨pb, 2 + which At, none⟩ (.pointer (some ⟨db, 0, none⟩))) := by
  have g1 := World.grownBy_alloc W (.cells #[.int .i64 1, .int .i64 At, .int .i64 N] 61) none
  have hb := Has.newA W #[.int .i64 1, .int .i64 At, .int .i64 N] 61
  have h1 := h.kept g1 (by simp)
  obtain ⟨W1, hW1⟩ : ∃ W1, W.alloc (.cells #[.int .i64 1, .int .i64 At, .int .i64 N] 61) = W1 := ⟨_, rfl⟩
  rw [hW1] at g1 hb h1
  obtain ⟨ob, hob⟩ : ∃ ob, W.heap.size = ob := ⟨_, rfl⟩
  rw [hob] at hb
  have HG : Keep (W.grownBy W1 none ∧ Has W1 pb cs 57 ∧ cs.length = 6) := ⟨g1, h1, hl⟩
  have o0 : W1.cell? ⟨ob, 0, none⟩ = some (.int .i64 1) := hb.cellv 0 _ rfl
  have o1 : W1.cell? ⟨ob, 1, none⟩ = some (.int .i64 At) := hb.cellv 1 _ rfl
  have o2 : W1.cell? ⟨ob, 2, none⟩ = some (.int .i64 N) := hb.cellv 2 _ rfl
  clear h hl g1 hb h1
  go_enter Try.func24, Try.ntmps24
  have HC : Keep (∀ k, k = which At → Calls Try.prog 23 #[.pointer (some ⟨pb, 0, none⟩), .int .i64 (k : Nat), .int .i64 N] W1 fun e W' => e = .returned (.bool true) ∧ (W.grownBy W' none ∨ ∃ sz rb db w2, W.grownBy w2 none ∧ (pairO rb (.slice none 0 0) db none sz [] []).P w2 ∧ W.heap.size ≤ rb ∧ W.heap.size ≤ db ∧ W' = (w2.setCell ⟨pb, which At, none⟩ (.pointer (some ⟨rb, 0, none⟩))).setCell ⟨pb, 2 + which At, none⟩ (.pointer (some ⟨db, 0, none⟩)))) := by
    refine ⟨fun k hk => ?_⟩
    have hk2 : k < 2 := by rw [hk]; exact which_lt At
    by_cases hN : 1 ≤ N ∧ N ≤ 4096
    · have hc := begin_yes pb cs k N.toNat W1 hk2 (by omega) (by omega) HG.out.2.1 HG.out.2.2
      rw [show ((N.toNat : Nat) : Int) = N by omega] at hc
      refine hc.mono ?_
      rintro e W' ⟨rfl, rb, db, w2, q1, q2, q3, q4, q5⟩
      have hs := HG.out.1.size
      exact ⟨rfl, .inr ⟨N.toNat, rb, db, w2, HG.out.1.trans q1, q2, by omega, by omega, by rw [q5, hk]⟩⟩
    · refine (begin_no pb k N W1 hN).mono ?_
      rintro e W' ⟨rfl, rfl⟩
      exact ⟨rfl, .inl HG.out.1⟩
  rcases which_or At with ⟨hwh, hat⟩ | ⟨hwh, hat⟩
  · go_wp2_with fail
    refine (HC.out 0 hwh.symm).mono ?_
    rintro e W2 ⟨rfl, h2⟩
    have H2 : Keep _ := ⟨h2⟩
    clear h2 HC
    go_wp2_with fail
    go_ret
    exact ⟨rfl, H2.out⟩
  · go_wp2_with fail
    refine (HC.out 1 hwh.symm).mono ?_
    rintro e W2 ⟨rfl, h2⟩
    have H2 : Keep _ := ⟨h2⟩
    clear h2 HC
    go_wp2_with fail
    go_ret
    exact ⟨rfl, H2.out⟩

/-- where the play stands -/
def GS (w W : World) (pb n : Nat) : Prop :=
  w.grownBy W none ∧ ∃ rb0 v0 db0 a0 sz0 L0 rb1 v1 db1 a1 sz1 L1 tv wv ts ws X, Sep w.heap.size W [bookO w.heap.size tv wv n n ts ws X, playO pb [.pointer (some ⟨rb0, 0, none⟩), .pointer (some ⟨rb1, 0, none⟩), .pointer (some ⟨db0, 0, none⟩), .pointer (some ⟨db1, 0, none⟩), tv, wv], pairO rb0 v0 db0 a0 sz0 L0 L0, pairO rb1 v1 db1 a1 sz1 L1 L1]
theorem GS.grown {w W W' : World} {pb n : Nat} (h : GS w W pb n) (hg : W.grownBy W' none) : GS w W' pb n := by
  obtain ⟨g, rb0, v0, db0, a0, sz0, L0, rb1, v1, db1, a1, sz1, L1, tv, wv, ts, ws, X, s⟩ := h
  exact ⟨g.trans hg, rb0, v0, db0, a0, sz0, L0, rb1, v1, db1, a1, sz1, L1, tv, wv, ts, ws, X, s.grown hg⟩
theorem grown_fr {w W W' : World} (g : w.grownBy W none) (f : Fr (fun i => w.heap.size ≤ i) W W') : w.grownBy W' none := fr_mine g f (fun _ e => e)
/-- a new ring in its place -/
theorem Sep.begun {lo : Nat} {W w2 : World} {b : Ob} {pb : Nat} {cs : List Value} {l : List Ob} {rb db sz k : Nat} (h : Sep lo W (b :: playO pb cs :: l)) (hlo : lo ≤ W.heap.size) (hg : W.grownBy w2 none) (hp : (pairO rb (.slice none 0 0) db none sz [] []).P w2) (h1 : W.heap.size ≤ rb) (h2 : W.heap.size ≤ db) :
    Sep lo ((w2.setCell ⟨pb, k, none⟩ (.pointer (some ⟨rb, 0, none⟩))).setCell ⟨pb, 2 + k, none⟩ (.pointer (some ⟨db, 0, none⟩))) (b :: playO pb ((cs.set k (.pointer (some ⟨rb, 0, none⟩))).set (2 + k) (.pointer (some ⟨db, 0, none⟩))) :: pairO rb (.slice none 0 0) db none sz [] [] :: l) ∧ Fr (fun i => lo ≤ i) W ((w2.setCell ⟨pb, k, none⟩ (.pointer (some ⟨rb, 0, none⟩))).setCell ⟨pb, 2 + k, none⟩ (.pointer (some ⟨db, 0, none⟩))) := by
  have s1 := h.add (n := pairO rb (.slice none 0 0) db none sz [] []) hlo hg hp (fun i hi => by
    rcases hi with hi | hi
    · rcases hi with e | e
      · omega
      · cases e
    · rcases hi with e | ⟨o, e⟩
      · omega
      · cases e)
  have hlo2 : lo ≤ w2.heap.size := Nat.le_trans hlo hg.size
  have s2 : Sep lo w2 (b :: playO pb cs :: pairO rb (.slice none 0 0) db none sz [] [] :: l) := s1.perm ((List.perm_middle (l₁ := [b, playO pb cs]) (l₂ := l)).symm)
  obtain ⟨s3, f3⟩ := s2.play hlo2 k (.pointer (some ⟨rb, 0, none⟩))
  obtain ⟨s4, f4⟩ := s3.play (Nat.le_trans hlo2 f3.size) (2 + k) (.pointer (some ⟨db, 0, none⟩))
  exact ⟨s4, ((Fr.ofNone hg).trans f3).trans f4⟩

theorem step_c (w W : World) (pb n : Nat) (kd At N : Int) (h : GS w W pb n) (hn : (n + 1) * 24 ≤ 140737488355328) :
    Calls Try.prog 24 #[.pointer (some ⟨pb, 0, none⟩), .agg #[.int .i64 kd, .int .i64 At, .int .i64 N]] W fun e W' => e = .returned (.bool true) ∧ ∃ n', n' ≤ n + 1 ∧ GS w W' pb n' := by
  obtain ⟨g, rb0, v0, db0, a0, sz0, L0, rb1, v1, db1, a1, sz1, L1, tv, wv, ts, ws, X, s⟩ := h
  have hlo : w.heap.size ≤ W.heap.size := g.size
  have hp : Has W pb [.pointer (some ⟨rb0, 0, none⟩), .pointer (some ⟨rb1, 0, none⟩), .pointer (some ⟨db0, 0, none⟩), .pointer (some ⟨db1, 0, none⟩), tv, wv] 57 := s.p (playO pb _) (by simp)
  by_cases k1 : kd = 1
  · subst k1
    refine (step_new pb _ At N W hp rfl).mono ?_
    rintro e W' ⟨rfl, h⟩
    refine ⟨rfl, n, by omega, ?_⟩
    rcases h with hg | ⟨sz, rb, db, w2, q1, q2, q3, q4, rfl⟩
    · exact ⟨g.trans hg, rb0, v0, db0, a0, sz0, L0, rb1, v1, db1, a1, sz1, L1, tv, wv, ts, ws, X, s.grown hg⟩
    · obtain ⟨s2, f2⟩ := s.begun (k := which At) hlo q1 q2 q3 q4
      refine ⟨grown_fr g f2, ?_⟩
      rcases which_or At with ⟨hwh, _⟩ | ⟨hwh, _⟩
      · rw [hwh] at s2 ⊢
        refine ⟨rb, .slice none 0 0, db, none, sz, [], rb1, v1, db1, a1, sz1, L1, tv, wv, ts, ws, X, s2.sub ?_⟩
        exact .cons_cons _ (.cons_cons _ (.cons_cons _ (.cons _ (.cons_cons _ .slnil))))
      · rw [hwh] at s2 ⊢
        have s3 := s2.sub (l' := [_, _, _, _]) (.cons_cons _ (.cons_cons _ (.cons_cons _ (.cons_cons _ (.cons _ .slnil)))))
        exact ⟨rb0, v0, db0, a0, sz0, L0, rb, .slice none 0 0, db, none, sz, [], tv, wv, ts, ws, X, s3.perm (List.Perm.cons _ (List.Perm.cons _ (List.Perm.swap _ _ _)))⟩
  -- the others turn one of the two
  have hone : ∀ rb v db a sz L (A B : List Ob),
      [bookO w.heap.size tv wv n n ts ws X, playO pb [.pointer (some ⟨rb0, 0, none⟩), .pointer (some ⟨rb1, 0, none⟩), .pointer (some ⟨db0, 0, none⟩), .pointer (some ⟨db1, 0, none⟩), tv, wv], pairO rb0 v0 db0 a0 sz0 L0 L0, pairO rb1 v1 db1 a1 sz1 L1 L1] = bookO w.heap.size tv wv n n ts ws X :: playO pb [.pointer (some ⟨rb0, 0, none⟩), .pointer (some ⟨rb1, 0, none⟩), .pointer (some ⟨db0, 0, none⟩), .pointer (some ⟨db1, 0, none⟩), tv, wv] :: (A ++ pairO rb v db a sz L L :: B) →
      (∀ W' n' tv' wv' ts' ws' X' v' a' Q, w.grownBy W' none → Sep w.heap.size W' (bookO w.heap.size tv' wv' n' n' ts' ws' X' :: playO pb [.pointer (some ⟨rb0, 0, none⟩), .pointer (some ⟨rb1, 0, none⟩), .pointer (some ⟨db0, 0, none⟩), .pointer (some ⟨db1, 0, none⟩), tv', wv'] :: (A ++ pairO rb v' db a' sz Q Q :: B)) → GS w W' pb n') →
      W.cell? ⟨pb, which At, none⟩ = some (.pointer (some ⟨rb, 0, none⟩)) → W.cell? ⟨pb, 2 + which At, none⟩ = some (.pointer (some ⟨db, 0, none⟩)) →
      Calls Try.prog 24 #[.pointer (some ⟨pb, 0, none⟩), .agg #[.int .i64 kd, .int .i64 At, .int .i64 N]] W fun e W' => e = .returned (.bool true) ∧ ∃ n', n' ≤ n + 1 ∧ GS w W' pb n' := by
    intro rb v db a sz L A B hl hmk hc hd
    rw [hl] at s
    have hpr : PR W pb (which At) rb v db a sz L := ⟨hc, hd, s.p _ (by simp)⟩
    have fin : ∀ (e : Ending) (W' : World), (e = .returned (.bool true) ∧ ∃ Q, RG W W' rb v db a sz Q Q [] []) → e = .returned (.bool true) ∧ ∃ n', n' ≤ n + 1 ∧ GS w W' pb n' := by
      rintro e W' ⟨rfl, Q, hR⟩
      obtain ⟨v', a', s'⟩ := Sep.rg (A := bookO w.heap.size tv wv n n ts ws X :: playO pb [.pointer (some ⟨rb0, 0, none⟩), .pointer (some ⟨rb1, 0, none⟩), .pointer (some ⟨db0, 0, none⟩), .pointer (some ⟨db1, 0, none⟩), tv, wv] :: A) s hlo hR
      exact ⟨rfl, n, by omega, hmk W' n tv wv ts ws X v' a' Q (fr_mine g hR.f (fun i e => s.lo (pairO rb v db a sz L L) (by simp) i e)) s'.tail⟩
    by_cases k2 : kd = 2
    · subst k2; exact (step_push pb rb db v a sz L At N W hpr).mono fin
    by_cases k3 : kd = 3
    · subst k3; exact (step_pop pb rb db v a sz L At N W hpr).mono fin
    by_cases k4 : kd = 4
    · subst k4; exact (step_at pb rb db v a sz L At N W hpr).mono fin
    by_cases k6 : kd = 6
    · subst k6; exact (step_all pb rb db v a sz L At N W hpr).mono fin
    by_cases k5 : kd = 5
    · subst k5
      refine (step_take pb rb db v a sz L At N W hpr w.heap.size n tv wv _ _ _ _ ts ws X A B s hlo hn).mono ?_
      rintro e W' ⟨rfl, tv', wv', ts', ws', X', v', a', Q, s', f'⟩
      exact ⟨rfl, n + 1, by omega, hmk W' (n + 1) tv' wv' ts' ws' X' v' a' Q (grown_fr g f') s'⟩
    exact (step_other pb rb db v a sz L At N W hpr kd ⟨k1, k2, k3, k4, k5, k6⟩).mono fin
  rcases which_or At with ⟨hwh, _⟩ | ⟨hwh, _⟩
  · exact hone rb0 v0 db0 a0 sz0 L0 [] [pairO rb1 v1 db1 a1 sz1 L1 L1] rfl (fun W' n' tv' wv' ts' ws' X' v' a' Q hg s' => ⟨hg, rb0, v', db0, a', sz0, Q, rb1, v1, db1, a1, sz1, L1, tv', wv', ts', ws', X', s'⟩) (by rw [hwh]; exact hp.cellv 0 _ rfl) (by rw [hwh]; exact hp.cellv 2 _ rfl)
  · exact hone rb1 v1 db1 a1 sz1 L1 [pairO rb0 v0 db0 a0 sz0 L0 L0] [] rfl (fun W' n' tv' wv' ts' ws' X' v' a' Q hg s' => ⟨hg, rb0, v0, db0, a0, sz0, L0, rb1, v', db1, a', sz1, Q, tv', wv', ts', ws', X', s'⟩) (by rw [hwh]; exact hp.cellv 1 _ rfl) (by rw [hwh]; exact hp.cellv 3 _ rfl)
end Go.Proofs.Ytflglflggeaokaa
