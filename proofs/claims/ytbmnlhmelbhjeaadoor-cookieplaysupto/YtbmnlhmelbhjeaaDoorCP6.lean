/- CookiePlays' walk -/
import Derived.Test.YtbmnlhmelbhjeaaDoorCP5
namespace Go.Proofs.YtbmnlhmelbhjeaaDoor
open Go Go.RowKit

def eB : ByteArray := { data := #[] }
def Ap (X Y : List Nat) : Prop := ∀ x ∈ X, ∀ y ∈ Y, x ≠ y
/-- two jars, the reference's two, and the rows that hold them -/
structure PS (w w' : World) (b0 b1 k0 k1 JB KB g0 g1 c0 c1 : Nat) (ks0 ks1 : List ByteArray) (m : Nat) : Prop where
  p0 : PR w' b0 k0 w.heap.size g0 c0 ks0
  p1 : PR w' b1 k1 w.heap.size g1 c1 ks1
  l0 : ks0.length ≤ m
  l1 : ks1.length ≤ m
  d : WD w'
  hj : Has w' JB [.pointer (some ⟨b0, 0, none⟩), .pointer (some ⟨b1, 0, none⟩)] 25
  hk : Has w' KB [.pointer (some ⟨k0, 0, none⟩), .pointer (some ⟨k1, 0, none⟩)] 46
  a1 : Ap [b0, k0, g0] [b1, k1, g1, JB, KB]
  a2 : Ap [b1, k1, g1] [JB, KB]
  g : w.grownBy w' none
  lo : ∀ x ∈ [b0, k0, g0, b1, k1, g1, JB, KB], w.heap.size ≤ x
theorem PR.lts {w : World} {b kb base g cap : Nat} {ks : List ByteArray} (h : PR w b kb base g cap ks) : b < w.heap.size ∧ kb < w.heap.size ∧ g < w.heap.size := by
  obtain ⟨s, a, hj, _⟩ := h.jr
  exact ⟨hj.lt, h.ro.h.lt, (h.ro.o.lt g rfl).2⟩
theorem FX.low {S : Nat → Prop} {w w1 w2 : World} (g : w.grownBy w1 none) (f : FX S w1 w2) (hs : ∀ k, S k → w.heap.size ≤ k) : w.grownBy w2 none :=
  ⟨f.os.trans g.os, f.tape.trans g.tape, f.output.trans g.output, Nat.le_trans g.size f.size, fun k hk _ => (f.block k (Nat.lt_of_lt_of_le hk g.size) (fun e => by have := hs k e; omega)).trans (g.block k hk (by simp))⟩
theorem PS.grow {w w' w2 : World} {b0 b1 k0 k1 JB KB g0 g1 c0 c1 : Nat} {ks0 ks1 : List ByteArray} {m : Nat} (h : PS w w' b0 b1 k0 k1 JB KB g0 g1 c0 c1 ks0 ks1 m) (gg : w'.grownBy w2 none) : PS w w2 b0 b1 k0 k1 JB KB g0 g1 c0 c1 ks0 ks1 m :=
  ⟨h.p0.grow gg, h.p1.grow gg, h.l0, h.l1, h.d.grow gg, h.hj.kept gg (by simp), h.hk.kept gg (by simp), h.a1, h.a2, h.g.trans gg, h.lo⟩
theorem PS.step0 {w w' w2 : World} {b0 b1 k0 k1 JB KB g0 g1 c0 c1 : Nat} {ks0 ks1 : List ByteArray} {m : Nat} (h : PS w w' b0 b1 k0 k1 JB KB g0 g1 c0 c1 ks0 ks1 m) (h3 : 3 ≤ w.heap.size) {g' c' : Nat} {ks' : List ByteArray} (hp : PR w2 b0 k0 w.heap.size g' c' ks') (hl : ks'.length ≤ ks0.length + 1) (hg : g' = g0 ∨ w'.heap.size ≤ g') (f : FX (SB b0 k0 g0) w' w2) :
    PS w w2 b0 b1 k0 k1 JB KB g' g1 c' c1 ks' ks1 (m + 1) := by
  have lo := h.lo
  have A1 := h.a1
  simp only [List.mem_cons, List.not_mem_nil, or_false, forall_eq_or_imp, forall_eq] at lo
  simp only [Ap, List.mem_cons, List.not_mem_nil, or_false, forall_eq_or_imp, forall_eq] at A1
  obtain ⟨o1, o2, o3, o4, o5, o6, o7, o8⟩ := lo
  obtain ⟨⟨p1, p2, p3, p4, p5⟩, ⟨q1, q2, q3, q4, q5⟩, ⟨r1, r2, r3, r4, r5⟩⟩ := A1
  obtain ⟨l3, l4, l5⟩ := h.p1.lts
  have l6 := h.hj.lt
  have l7 := h.hk.lt
  have nb : ∀ k, b0 ≠ k → k0 ≠ k → g0 ≠ k → ¬ SB b0 k0 g0 k := fun k e1 e2 e3 e => by
    rcases e with e | e | e
    · exact e1 e.symm
    · exact e2 e.symm
    · exact e3 e.symm
  have hs : ∀ k, SB b0 k0 g0 k → w.heap.size ≤ k := fun k e => by
    rcases e with rfl | rfl | rfl
    · exact o1
    · exact o2
    · exact o3
  have G : ∀ y, y < w'.heap.size → g0 ≠ y → g' ≠ y := fun y hy hne => by
    rcases hg with rfl | e
    · exact hne
    · omega
  have og : w.heap.size ≤ g' := by
    rcases hg with rfl | e
    · exact o3
    · exact Nat.le_trans h.g.size e
  have hl0 := h.l0
  have hl1 := h.l1
  refine ⟨hp, h.p1.move f (nb _ p1 q1 r1) (nb _ p2 q2 r2) (nb _ p3 q3 r3), by omega, by omega, h.d.move f (fun k e => Nat.le_trans h3 (hs k e)), f.has h.hj (nb _ p4 q4 r4), f.has h.hk (nb _ p5 q5 r5), ?_, h.a2, FX.low h.g f hs, ?_⟩
  · simp only [Ap, List.mem_cons, List.not_mem_nil, or_false, forall_eq_or_imp, forall_eq]
    exact ⟨⟨p1, p2, p3, p4, p5⟩, ⟨q1, q2, q3, q4, q5⟩, ⟨G _ l3 r1, G _ l4 r2, G _ l5 r3, G _ l6 r4, G _ l7 r5⟩⟩
  · simp only [List.mem_cons, List.not_mem_nil, or_false, forall_eq_or_imp, forall_eq]
    exact ⟨o1, o2, og, o4, o5, o6, o7, o8⟩
theorem PS.step1 {w w' w2 : World} {b0 b1 k0 k1 JB KB g0 g1 c0 c1 : Nat} {ks0 ks1 : List ByteArray} {m : Nat} (h : PS w w' b0 b1 k0 k1 JB KB g0 g1 c0 c1 ks0 ks1 m) (h3 : 3 ≤ w.heap.size) {g' c' : Nat} {ks' : List ByteArray} (hp : PR w2 b1 k1 w.heap.size g' c' ks') (hl : ks'.length ≤ ks1.length + 1) (hg : g' = g1 ∨ w'.heap.size ≤ g') (f : FX (SB b1 k1 g1) w' w2) :
    PS w w2 b0 b1 k0 k1 JB KB g0 g' c0 c' ks0 ks' (m + 1) := by
  have lo := h.lo
  have A1 := h.a1
  have A2 := h.a2
  simp only [List.mem_cons, List.not_mem_nil, or_false, forall_eq_or_imp, forall_eq] at lo
  simp only [Ap, List.mem_cons, List.not_mem_nil, or_false, forall_eq_or_imp, forall_eq] at A1 A2
  obtain ⟨o1, o2, o3, o4, o5, o6, o7, o8⟩ := lo
  obtain ⟨⟨p1, p2, p3, p4, p5⟩, ⟨q1, q2, q3, q4, q5⟩, ⟨r1, r2, r3, r4, r5⟩⟩ := A1
  obtain ⟨⟨t1, t2⟩, ⟨t3, t4⟩, ⟨t5, t6⟩⟩ := A2
  obtain ⟨l0, l1, l2⟩ := h.p0.lts
  have l6 := h.hj.lt
  have l7 := h.hk.lt
  have nb : ∀ k, k ≠ b1 → k ≠ k1 → k ≠ g1 → ¬ SB b1 k1 g1 k := fun k e1 e2 e3 e => by
    rcases e with e | e | e
    · exact e1 e
    · exact e2 e
    · exact e3 e
  have hs : ∀ k, SB b1 k1 g1 k → w.heap.size ≤ k := fun k e => by
    rcases e with rfl | rfl | rfl
    · exact o4
    · exact o5
    · exact o6
  have G : ∀ y, y < w'.heap.size → y ≠ g1 → y ≠ g' := fun y hy hne => by
    rcases hg with rfl | e
    · exact hne
    · omega
  have og : w.heap.size ≤ g' := by
    rcases hg with rfl | e
    · exact o6
    · exact Nat.le_trans h.g.size e
  have hl0 := h.l0
  have hl1 := h.l1
  refine ⟨h.p0.move f (nb _ p1 p2 p3) (nb _ q1 q2 q3) (nb _ r1 r2 r3), hp, by omega, by omega, h.d.move f (fun k e => Nat.le_trans h3 (hs k e)), f.has h.hj (nb _ t1.symm t3.symm t5.symm), f.has h.hk (nb _ t2.symm t4.symm t6.symm), ?_, ?_, FX.low h.g f hs, ?_⟩
  · simp only [Ap, List.mem_cons, List.not_mem_nil, or_false, forall_eq_or_imp, forall_eq]
    exact ⟨⟨p1, p2, G _ l0 p3, p4, p5⟩, ⟨q1, q2, G _ l1 q3, q4, q5⟩, ⟨r1, r2, G _ l2 r3, r4, r5⟩⟩
  · simp only [Ap, List.mem_cons, List.not_mem_nil, or_false, forall_eq_or_imp, forall_eq]
    exact ⟨⟨t1, t2⟩, ⟨t3, t4⟩, ⟨(G _ l6 t5.symm).symm, (G _ l7 t6.symm).symm⟩⟩
  · simp only [List.mem_cons, List.not_mem_nil, or_false, forall_eq_or_imp, forall_eq]
    exact ⟨o1, o2, o3, o4, o5, og, o7, o8⟩

set_option maxRecDepth 100000 in
set_option maxHeartbeats 16000000 in
theorem playsLaw_c (one two : ByteArray) (ao : Option Addr) (no co : Nat) (xs : List OpR) (w : World) (hk : Kc w) (hr : RK w) (h3 : 3 ≤ w.heap.size) (hx : Scr w ao no xs) (hno : no ≤ 9223372036854775807) (h1 : one.size ≤ 1073741000) (h2 : two.size ≤ 1073741000) (hxs : ∀ o ∈ xs, o.A.size ≤ 1073741000 ∧ o.B.size ≤ 1073741000) :
    Calls Tryd.prog 7 #[.string one, .string two, .slice ao no co] w fun e w' => e = .returned (.bool true) ∧ w.grownBy w' none := by
  have HD : Keep (WD w) := ⟨hk, hr, h3⟩
  have HO := Keep.mk (And.intro hx hxs)
  clear hk hr hx hxs
  go_enter Tryd.func7, Tryd.ntmps7
  go_wp2_with fail
  refine (alive_c _ HD.out.k).mono ?_
  rintro e w1 ⟨rfl, g1⟩
  have G1 := Keep.mk g1
  clear g1
  go_wp2_with fail
  refine (new_c one _ (HD.out.k.kept G1.out (by simp)) (by omega)).mono ?_
  rintro e w2 ⟨b0, rfl, j0, g2, lb0⟩
  have G2 := Keep.mk (And.intro (G1.out.trans g2) (And.intro j0 (Nat.le_trans G1.out.size lb0)))
  clear g2 j0 lb0 G1
  go_wp2_with fail
  refine (new_c two _ (HD.out.k.kept G2.out.1 (by simp)) (by omega)).mono ?_
  rintro e w3 ⟨b1, rfl, j1, g3, lb1⟩
  have G3 : Keep (w.grownBy w3 none ∧ JR w3 b0 (firstS one) zl40 ∧ JR w3 b1 (firstS two) zl40 ∧ w.heap.size ≤ b0 ∧ b0 < b1) := ⟨G2.out.1.trans g3, G2.out.2.1.kept g3 (by simp), j1, G2.out.2.2, by have := G2.out.2.1.lt; omega⟩
  clear g3 j1 lb1 G2
  go_wp2_with fail
  have hn3 := Has.newA w3 #[.pointer (some ⟨b0, 0, none⟩), .pointer (some ⟨b1, 0, none⟩)] 25
  have g4 := World.grownBy_alloc w3 (.cells #[.pointer (some ⟨b0, 0, none⟩), .pointer (some ⟨b1, 0, none⟩)] 25) none
  have hs3 : w3.heap.size < (w3.alloc (.cells #[.pointer (some ⟨b0, 0, none⟩), .pointer (some ⟨b1, 0, none⟩)] 25)).heap.size := by rw [World.size_alloc]; omega
  generalize w3.alloc (.cells #[.pointer (some ⟨b0, 0, none⟩), .pointer (some ⟨b1, 0, none⟩)] 25) = w4 at hn3 g4 hs3 ⊢
  generalize hJB : w3.heap.size = JB at hn3 hs3 ⊢
  have G4 : Keep (w.grownBy w4 none ∧ JR w4 b0 (firstS one) zl40 ∧ JR w4 b1 (firstS two) zl40 ∧ Has w4 JB [.pointer (some ⟨b0, 0, none⟩), .pointer (some ⟨b1, 0, none⟩)] 25 ∧ w.heap.size ≤ b0 ∧ b0 < b1 ∧ b1 < JB) := ⟨G3.out.1.trans g4, G3.out.2.1.kept g4 (by simp), G3.out.2.2.1.kept g4 (by simp), hn3, G3.out.2.2.2.1, G3.out.2.2.2.2, by have := G3.out.2.2.1.lt; omega⟩
  clear hn3 g4 hJB hs3 G3
  refine (rnew_c one _ (HD.out.r.kept G4.out.1) (Nat.le_trans h3 G4.out.1.size) (by omega)).mono ?_
  rintro e w5 ⟨k0, g0, rfl, q0, r0, g5, lg0, lk0⟩
  have G5 := Keep.mk (And.intro (G4.out.1.trans g5) (And.intro (And.intro (G4.out.2.1.kept g5 (by simp)) (G4.out.2.2.1.kept g5 (by simp))) (And.intro (G4.out.2.2.2.1.kept g5 (by simp)) (And.intro G4.out.2.2.2.2 (And.intro q0 (And.intro r0 (And.intro (show JB < g0 by have := G4.out.2.2.2.1.lt; omega) lk0)))))))
  clear g5 q0 r0 lg0 lk0 G4
  go_wp2_with fail
  refine (rnew_c two _ (HD.out.r.kept G5.out.1) (Nat.le_trans h3 G5.out.1.size) (by omega)).mono ?_
  rintro e w6 ⟨k1, g1, rfl, q1, r1, g6, lg1, lk1⟩
  obtain ⟨ga, ⟨gb1, gb2⟩, gc, gd, ge, gf, gg, gh⟩ := G5.out
  have G6 := Keep.mk (And.intro (ga.trans g6) (And.intro (And.intro (gb1.kept g6 (by simp)) (gb2.kept g6 (by simp))) (And.intro (gc.kept g6 (by simp)) (And.intro (And.intro (ge.kept g6 (by simp)) (gf.kept g6 (by simp))) (And.intro q1 r1)))))
  have hord : w.heap.size ≤ b0 ∧ b0 < b1 ∧ b1 < JB ∧ JB < g0 ∧ g0 < k0 ∧ k0 < g1 ∧ g1 < k1 := ⟨gd.1, gd.2.1, gd.2.2, gg, gh, by have := ge.lt; omega, lk1⟩
  clear g6 q1 r1 lg1 lk1 G5 ga gb1 gb2 gc gd ge gf gg gh
  go_wp2_with fail
  have hn6 := Has.newA w6 #[.pointer (some ⟨k0, 0, none⟩), .pointer (some ⟨k1, 0, none⟩)] 46
  have g7 := World.grownBy_alloc w6 (.cells #[.pointer (some ⟨k0, 0, none⟩), .pointer (some ⟨k1, 0, none⟩)] 46) none
  generalize w6.alloc (.cells #[.pointer (some ⟨k0, 0, none⟩), .pointer (some ⟨k1, 0, none⟩)] 46) = w7 at hn6 g7 ⊢
  generalize hKB : w6.heap.size = KB at hn6 ⊢
  have HS : Keep (PS w w7 b0 b1 k0 k1 JB KB g0 g1 1 1 [deriveB one cookieB []] [deriveB two cookieB []] 1) := ⟨by
    obtain ⟨ga, ⟨gb1, gb2⟩, gc, ⟨gd, ge⟩, gf, gg⟩ := G6.out
    have hlt : k1 < KB := by rw [← hKB]; exact gf.lt
    have own : ∀ g k, w.heap.size ≤ g → Has w7 g [.string k] 9 → w7.ownsRow w.heap.size 9 1 (.slice (some ⟨g, 0, none⟩) 1 1) 1 [.string k] := fun g k hg hh => ⟨rfl, .inr ⟨g, 1, #[.string k], rfl, hg, hh, Nat.le_refl _, by decide, rfl, rfl⟩⟩
    have hsz := (ga.trans g7).size
    refine ⟨⟨⟨_, _, gb1.kept g7 (by simp), KS.start one⟩, ⟨gd.kept g7 (by simp), own g0 _ (by omega) (ge.kept g7 (by simp)), by omega⟩, by omega, by omega, hsz⟩, ⟨⟨_, _, gb2.kept g7 (by simp), KS.start two⟩, ⟨gf.kept g7 (by simp), own g1 _ (by omega) (gg.kept g7 (by simp)), by omega⟩, by omega, by omega, hsz⟩, by simp, by simp, HD.out.grow (ga.trans g7), gc.kept g7 (by simp), hn6, ?_, ?_, ga.trans g7, ?_⟩
    · simp only [Ap, List.mem_cons, List.not_mem_nil, or_false, forall_eq_or_imp, forall_eq]; omega
    · simp only [Ap, List.mem_cons, List.not_mem_nil, or_false, forall_eq_or_imp, forall_eq]; omega
    · simp only [List.mem_cons, List.not_mem_nil, or_false, forall_eq_or_imp, forall_eq]; omega⟩
  clear hn6 g7 hKB G6 hord
  go_wp2_with fail
  go_loopw [9] (fun t w' => ∃ (i g0 g1 c0 c1 : Nat) (ks0 ks1 : List ByteArray), i ≤ 200 ∧ i ≤ no ∧ t = .int .i64 i ∧ Keep (PS w w' b0 b1 k0 k1 JB KB g0 g1 c0 c1 ks0 ks1 (i + 1))) (fun t _ => 200 - (intOf t).toNat)
  case atStart => exact ⟨0, g0, g1, 1, 1, _, _, by omega, by omega, rfl, HS⟩
  case round =>
    clear HS
    obtain ⟨i, g0, g1, c0, c1, ks0, ks1, hi, hin, rfl, HS⟩ := hrel
    by_cases hlk : i < no ∧ i < 200
    · obtain ⟨hk1, hk2⟩ := hlk
      obtain ⟨B, q, o, rfl, ho, hok, hrg⟩ := HO.out.1.get hk1
      have HRG := Keep.mk (range_kept hrg HS.out.g)
      have HOK := Keep.mk (And.intro hok (HO.out.2 o (List.mem_of_getElem? ho)))
      have HI : Keep ((Tryd.prog.info? 40).map (·.size) = some o.vals.length) := ⟨sizeOp⟩
      obtain ⟨d40, U1, U2⟩ := underOp
      have HU := Keep.mk (And.intro U1 U2)
      obtain ⟨u, hu⟩ : ∃ u : Nat, IntKind.u64.wrap o.which = (u : Int) := ⟨(o.which % 18446744073709551616).toNat, by show o.which % 18446744073709551616 = _; omega⟩
      have cw : wr.cell? ⟨B, q + i * 8 + 1, none⟩ = some (.int .i64 o.which) := HRG.out 1 _ rfl
      have HRW := Keep.mk hrg
      clear hrg ho hok U1 U2
      have hmod : u % 2 = 0 ∨ u % 2 = 1 := by omega
      rcases hmod with hm | hm
      · have hmI : (u : Int) % 2 = 0 := by omega
        go_wp2_with fail
        have gd := gr_drewN wr 1 none
        refine wp_region_held_drew (S := fun w' => w'.cell? ⟨JB, 0, none⟩ = some (.pointer (some ⟨b0, 0, none⟩)) ∧ w'.cell? ⟨KB, 0, none⟩ = some (.pointer (some ⟨k0, 0, none⟩)) ∧ w'.rangeAt B (q + i * 8) o.vals) (by kernel_rfl) ⟨(HS.out.grow gd).hj.cellv 0 _ rfl, (HS.out.grow gd).hk.cellv 0 _ rfl, range_kept HRG.out gd⟩ (fun hHeld => ?_)
        change wr.grownBy wr.drew none at gd
        generalize wr.drew = wa at gd hHeld ⊢
        have HA := Keep.mk (HS.out.grow gd)
        clear gd HS
        refine wpAnyH_take (i := 0) (oi := _) (v := ?_) rfl (by kernel_rfl) (by kernel_rfl) (by kernel_rfl) (fun _ _ _ h => h) (Or.inl ⟨by rfl, ?_⟩) (by assumption) ?_
        rotate_left
        · (intro w hSw; go_simp; first | done | (with_reducible rfl))
        simp only [Act.put, List.getElem_toArray, List.getElem_cons_zero, List.setIfInBounds_toArray, List.set_cons_zero, List.set_cons_succ]
        refine wpAnyH_take (i := 1) (oi := _) (v := ?_) rfl (by kernel_rfl) (by kernel_rfl) (by kernel_rfl) (fun _ _ _ h => h) (Or.inl ⟨by rfl, ?_⟩) (by assumption) ?_
        rotate_left
        · (intro w hSw; go_simp; first | done | (with_reducible rfl))
        simp only [Act.put, List.getElem_toArray, List.getElem_cons_succ, List.getElem_cons_zero, List.setIfInBounds_toArray, List.set_cons_zero, List.set_cons_succ]
        refine wpAnyH_take (i := 2) (oi := _) (v := ?_) rfl (by kernel_rfl) (by kernel_rfl) (by kernel_rfl) (fun _ _ _ h => h) (Or.inl ⟨by rfl, ?_⟩) (by assumption) ?_
        rotate_left
        · (intro w hSw; go_simp; first | done | (with_reducible rfl))
        simp only [Act.put, List.getElem_toArray, List.getElem_cons_succ, List.getElem_cons_zero, List.setIfInBounds_toArray, List.set_cons_zero, List.set_cons_succ]
        refine wpAnyH_take (i := 3) (oi := _) (v := ?_) rfl (by kernel_rfl) (by kernel_rfl) (by kernel_rfl) (fun _ _ _ h => h) (Or.inl ⟨by rfl, ?_⟩) (by assumption) ?_
        rotate_left
        · (intro w hSw; obtain ⟨y1, y2, y3⟩ := hSw; clear y3; go_simp; first | done | (with_reducible rfl))
        simp only [Act.put, List.getElem_toArray, List.getElem_cons_succ, List.getElem_cons_zero, List.setIfInBounds_toArray, List.set_cons_zero, List.set_cons_succ]
        refine wpAnyH_take (i := 4) (oi := _) (v := ?_) rfl (by kernel_rfl) (by kernel_rfl) (by kernel_rfl) (fun _ _ _ h => h) (Or.inl ⟨by rfl, ?_⟩) (by assumption) ?_
        rotate_left
        · (intro w hSw; go_simp; first | done | (with_reducible rfl))
        simp only [Act.put, List.getElem_toArray, List.getElem_cons_succ, List.getElem_cons_zero, List.setIfInBounds_toArray, List.set_cons_zero, List.set_cons_succ]
        refine wpAnyH_take (i := 5) (oi := _) (v := ?_) rfl (by kernel_rfl) (by kernel_rfl) (by kernel_rfl) (fun _ _ _ h => h) (Or.inl ⟨by rfl, ?_⟩) (by assumption) ?_
        rotate_left
        · (intro w hSw; go_simp; first | done | (with_reducible rfl))
        simp only [Act.put, List.getElem_toArray, List.getElem_cons_succ, List.getElem_cons_zero, List.setIfInBounds_toArray, List.set_cons_zero, List.set_cons_succ]
        refine wpAnyH_take (i := 6) (oi := _) (v := ?_) rfl (by kernel_rfl) (by kernel_rfl) (by kernel_rfl) (fun _ _ _ h => h) (Or.inl ⟨by rfl, ?_⟩) (by assumption) ?_
        rotate_left
        · (intro w hSw; go_simp; first | done | (with_reducible rfl))
        simp only [Act.put, List.getElem_toArray, List.getElem_cons_succ, List.getElem_cons_zero, List.setIfInBounds_toArray, List.set_cons_zero, List.set_cons_succ]
        refine wpAnyH_take (i := 7) (oi := _) (v := ?_) rfl (by kernel_rfl) (by kernel_rfl) (by kernel_rfl) (fun _ _ _ h => h) (Or.inl ⟨by rfl, ?_⟩) (by assumption) ?_
        rotate_left
        · (intro w hSw; obtain ⟨y1, y2, y3⟩ := hSw; clear y3; go_simp; first | done | (with_reducible rfl))
        simp only [Act.put, List.getElem_toArray, List.getElem_cons_succ, List.getElem_cons_zero, List.setIfInBounds_toArray, List.set_cons_zero, List.set_cons_succ]
        refine wpAnyH_take (i := 8) (oi := _) (v := ?_) rfl (by kernel_rfl) (by kernel_rfl) (by kernel_rfl) (fun _ _ _ h => h) (Or.inl ⟨by rfl, ?_⟩) (by assumption) ?_
        rotate_left
        · (intro w hSw; go_simp; first | done | (with_reducible rfl))
        simp only [Act.put, List.getElem_toArray, List.getElem_cons_succ, List.getElem_cons_zero, List.setIfInBounds_toArray, List.set_cons_zero, List.set_cons_succ]
        refine wpAnyH_take (i := 9) (oi := _) (v := ?_) rfl (by kernel_rfl) (by kernel_rfl) (by kernel_rfl) (fun _ _ _ h => h) (Or.inl ⟨by rfl, ?_⟩) (by assumption) ?_
        rotate_left
        · (intro w hSw; go_simp; first | done | (with_reducible rfl))
        simp only [Act.put, List.getElem_toArray, List.getElem_cons_succ, List.getElem_cons_zero, List.setIfInBounds_toArray, List.set_cons_zero, List.set_cons_succ]
        refine wpAnyH_take (i := 10) (oi := _) (v := ?_) rfl (by kernel_rfl) (by kernel_rfl) (by kernel_rfl) (fun _ _ _ h => h) (Or.inl ⟨by rfl, ?_⟩) (by assumption) ?_
        rotate_left
        · (intro w hSw; go_simp; first | done | (with_reducible rfl))
        simp only [Act.put, List.getElem_toArray, List.getElem_cons_succ, List.getElem_cons_zero, List.setIfInBounds_toArray, List.set_cons_zero, List.set_cons_succ]
        refine wpAnyH_take (i := 11) (oi := _) (v := _) rfl (by kernel_rfl) (by kernel_rfl) (by kernel_rfl) (fun _ _ _ h => h) (yieldsIf_load_mid (by rfl) 40 _ rfl _ _ rfl _ _ (fun _ h => h.2.2) HU.out.1 HU.out.2 (HI.out)) (by assumption) ?_
        simp only [Act.put, List.getElem_toArray, List.getElem_cons_succ, List.getElem_cons_zero, List.setIfInBounds_toArray, List.set_cons_zero, List.set_cons_succ]
        refine wpAnyH_ready (rs := [12]) (by kernel_rfl) (by simp) ?_
        refine AllReadyH.cons rfl (fun K hK => ?_) AllReadyH.nil
        go_simp
        go_wp2_with fail
        have lo := HA.out.lo
        simp only [List.mem_cons, List.not_mem_nil, or_false, forall_eq_or_imp, forall_eq] at lo
        refine (plays_c b0 k0 _ g0 c0 ks0 o _ HA.out.p0 HA.out.d (by omega) (by omega) (by omega) (by have := HA.out.l0; omega) HOK.out.1 HOK.out.2.1 HOK.out.2.2).mono ?_
        rintro e wb ⟨rfl, g', c', ks', hp, hl, hg, ff⟩
        have HB := Keep.mk (HA.out.step0 h3 hp hl hg ff)
        clear hp hl hg ff lo HA
        refine hK.out _ _ ⟨HB.out.hj.cellv 0 _ rfl, HB.out.hk.cellv 0 _ rfl, range_kept HRW.out HB.out.g⟩ (fun hHeld => ?_)
        clear hK K
        refine wpAnyH_ready (rs := [13]) (by kernel_rfl) (by simp) ?_
        refine AllReadyH.cons rfl (fun K hK => ?_) AllReadyH.nil
        go_simp
        go_wp2_with fail
        refine hK.out _ _ hHeld (fun hHeld => ?_)
        clear hK K
        refine wpAnyH_done (by kernel_rfl) ?_ _
        clear hHeld
        go_wp2_with fail
        refine ⟨⟨i + 1, g', g1, c', c1, ks', ks1, by omega, by omega, by go_num, HB⟩, ?_⟩
        simp [intOf]; omega
      · have hmI : (u : Int) % 2 = 1 := by omega
        go_wp2_with fail
        have gd := gr_drewN wr 1 none
        refine wp_region_held_drew (S := fun w' => w'.cell? ⟨JB, 1, none⟩ = some (.pointer (some ⟨b1, 0, none⟩)) ∧ w'.cell? ⟨KB, 1, none⟩ = some (.pointer (some ⟨k1, 0, none⟩)) ∧ w'.rangeAt B (q + i * 8) o.vals) (by kernel_rfl) ⟨(HS.out.grow gd).hj.cellv 1 _ rfl, (HS.out.grow gd).hk.cellv 1 _ rfl, range_kept HRG.out gd⟩ (fun hHeld => ?_)
        change wr.grownBy wr.drew none at gd
        generalize wr.drew = wa at gd hHeld ⊢
        have HA := Keep.mk (HS.out.grow gd)
        clear gd HS
        refine wpAnyH_take (i := 0) (oi := _) (v := ?_) rfl (by kernel_rfl) (by kernel_rfl) (by kernel_rfl) (fun _ _ _ h => h) (Or.inl ⟨by rfl, ?_⟩) (by assumption) ?_
        rotate_left
        · (intro w hSw; go_simp; first | done | (with_reducible rfl))
        simp only [Act.put, List.getElem_toArray, List.getElem_cons_zero, List.setIfInBounds_toArray, List.set_cons_zero, List.set_cons_succ]
        refine wpAnyH_take (i := 1) (oi := _) (v := ?_) rfl (by kernel_rfl) (by kernel_rfl) (by kernel_rfl) (fun _ _ _ h => h) (Or.inl ⟨by rfl, ?_⟩) (by assumption) ?_
        rotate_left
        · (intro w hSw; go_simp; first | done | (with_reducible rfl))
        simp only [Act.put, List.getElem_toArray, List.getElem_cons_succ, List.getElem_cons_zero, List.setIfInBounds_toArray, List.set_cons_zero, List.set_cons_succ]
        refine wpAnyH_take (i := 2) (oi := _) (v := ?_) rfl (by kernel_rfl) (by kernel_rfl) (by kernel_rfl) (fun _ _ _ h => h) (Or.inl ⟨by rfl, ?_⟩) (by assumption) ?_
        rotate_left
        · (intro w hSw; go_simp; first | done | (with_reducible rfl))
        simp only [Act.put, List.getElem_toArray, List.getElem_cons_succ, List.getElem_cons_zero, List.setIfInBounds_toArray, List.set_cons_zero, List.set_cons_succ]
        refine wpAnyH_take (i := 3) (oi := _) (v := ?_) rfl (by kernel_rfl) (by kernel_rfl) (by kernel_rfl) (fun _ _ _ h => h) (Or.inl ⟨by rfl, ?_⟩) (by assumption) ?_
        rotate_left
        · (intro w hSw; obtain ⟨y1, y2, y3⟩ := hSw; clear y3; go_simp; first | done | (with_reducible rfl))
        simp only [Act.put, List.getElem_toArray, List.getElem_cons_succ, List.getElem_cons_zero, List.setIfInBounds_toArray, List.set_cons_zero, List.set_cons_succ]
        refine wpAnyH_take (i := 4) (oi := _) (v := ?_) rfl (by kernel_rfl) (by kernel_rfl) (by kernel_rfl) (fun _ _ _ h => h) (Or.inl ⟨by rfl, ?_⟩) (by assumption) ?_
        rotate_left
        · (intro w hSw; go_simp; first | done | (with_reducible rfl))
        simp only [Act.put, List.getElem_toArray, List.getElem_cons_succ, List.getElem_cons_zero, List.setIfInBounds_toArray, List.set_cons_zero, List.set_cons_succ]
        refine wpAnyH_take (i := 5) (oi := _) (v := ?_) rfl (by kernel_rfl) (by kernel_rfl) (by kernel_rfl) (fun _ _ _ h => h) (Or.inl ⟨by rfl, ?_⟩) (by assumption) ?_
        rotate_left
        · (intro w hSw; go_simp; first | done | (with_reducible rfl))
        simp only [Act.put, List.getElem_toArray, List.getElem_cons_succ, List.getElem_cons_zero, List.setIfInBounds_toArray, List.set_cons_zero, List.set_cons_succ]
        refine wpAnyH_take (i := 6) (oi := _) (v := ?_) rfl (by kernel_rfl) (by kernel_rfl) (by kernel_rfl) (fun _ _ _ h => h) (Or.inl ⟨by rfl, ?_⟩) (by assumption) ?_
        rotate_left
        · (intro w hSw; go_simp; first | done | (with_reducible rfl))
        simp only [Act.put, List.getElem_toArray, List.getElem_cons_succ, List.getElem_cons_zero, List.setIfInBounds_toArray, List.set_cons_zero, List.set_cons_succ]
        refine wpAnyH_take (i := 7) (oi := _) (v := ?_) rfl (by kernel_rfl) (by kernel_rfl) (by kernel_rfl) (fun _ _ _ h => h) (Or.inl ⟨by rfl, ?_⟩) (by assumption) ?_
        rotate_left
        · (intro w hSw; obtain ⟨y1, y2, y3⟩ := hSw; clear y3; go_simp; first | done | (with_reducible rfl))
        simp only [Act.put, List.getElem_toArray, List.getElem_cons_succ, List.getElem_cons_zero, List.setIfInBounds_toArray, List.set_cons_zero, List.set_cons_succ]
        refine wpAnyH_take (i := 8) (oi := _) (v := ?_) rfl (by kernel_rfl) (by kernel_rfl) (by kernel_rfl) (fun _ _ _ h => h) (Or.inl ⟨by rfl, ?_⟩) (by assumption) ?_
        rotate_left
        · (intro w hSw; go_simp; first | done | (with_reducible rfl))
        simp only [Act.put, List.getElem_toArray, List.getElem_cons_succ, List.getElem_cons_zero, List.setIfInBounds_toArray, List.set_cons_zero, List.set_cons_succ]
        refine wpAnyH_take (i := 9) (oi := _) (v := ?_) rfl (by kernel_rfl) (by kernel_rfl) (by kernel_rfl) (fun _ _ _ h => h) (Or.inl ⟨by rfl, ?_⟩) (by assumption) ?_
        rotate_left
        · (intro w hSw; go_simp; first | done | (with_reducible rfl))
        simp only [Act.put, List.getElem_toArray, List.getElem_cons_succ, List.getElem_cons_zero, List.setIfInBounds_toArray, List.set_cons_zero, List.set_cons_succ]
        refine wpAnyH_take (i := 10) (oi := _) (v := ?_) rfl (by kernel_rfl) (by kernel_rfl) (by kernel_rfl) (fun _ _ _ h => h) (Or.inl ⟨by rfl, ?_⟩) (by assumption) ?_
        rotate_left
        · (intro w hSw; go_simp; first | done | (with_reducible rfl))
        simp only [Act.put, List.getElem_toArray, List.getElem_cons_succ, List.getElem_cons_zero, List.setIfInBounds_toArray, List.set_cons_zero, List.set_cons_succ]
        refine wpAnyH_take (i := 11) (oi := _) (v := _) rfl (by kernel_rfl) (by kernel_rfl) (by kernel_rfl) (fun _ _ _ h => h) (yieldsIf_load_mid (by rfl) 40 _ rfl _ _ rfl _ _ (fun _ h => h.2.2) HU.out.1 HU.out.2 (HI.out)) (by assumption) ?_
        simp only [Act.put, List.getElem_toArray, List.getElem_cons_succ, List.getElem_cons_zero, List.setIfInBounds_toArray, List.set_cons_zero, List.set_cons_succ]
        refine wpAnyH_ready (rs := [12]) (by kernel_rfl) (by simp) ?_
        refine AllReadyH.cons rfl (fun K hK => ?_) AllReadyH.nil
        go_simp
        go_wp2_with fail
        have lo := HA.out.lo
        simp only [List.mem_cons, List.not_mem_nil, or_false, forall_eq_or_imp, forall_eq] at lo
        refine (plays_c b1 k1 _ g1 c1 ks1 o _ HA.out.p1 HA.out.d (by omega) (by omega) (by omega) (by have := HA.out.l1; omega) HOK.out.1 HOK.out.2.1 HOK.out.2.2).mono ?_
        rintro e wb ⟨rfl, g', c', ks', hp, hl, hg, ff⟩
        have HB := Keep.mk (HA.out.step1 h3 hp hl hg ff)
        clear hp hl hg ff lo HA
        refine hK.out _ _ ⟨HB.out.hj.cellv 1 _ rfl, HB.out.hk.cellv 1 _ rfl, range_kept HRW.out HB.out.g⟩ (fun hHeld => ?_)
        clear hK K
        refine wpAnyH_ready (rs := [13]) (by kernel_rfl) (by simp) ?_
        refine AllReadyH.cons rfl (fun K hK => ?_) AllReadyH.nil
        go_simp
        go_wp2_with fail
        refine hK.out _ _ hHeld (fun hHeld => ?_)
        clear hK K
        refine wpAnyH_done (by kernel_rfl) ?_ _
        clear hHeld
        go_wp2_with fail
        refine ⟨⟨i + 1, g0, g', c0, c', ks0, ks', by omega, by omega, by go_num, HB⟩, ?_⟩
        simp [intOf]; omega
    · have hfin : ¬ (i < no) ∨ (i < no ∧ ¬ i < 200) := by omega
      clear hlk
      rcases hfin with hf1 | ⟨hf1, hf2⟩
      · obtain ⟨s0, a0, j0, z0⟩ := HS.out.p0.jr
        obtain ⟨s1, a1, j1, z1⟩ := HS.out.p1.jr
        obtain ⟨x0, y0, hx0, hy0, hz0, hs0⟩ := z0.last
        obtain ⟨x1, y1, hx1, hy1, hz1, hs1⟩ := z1.last
        have L0 := HS.out.l0
        have L1 := HS.out.l1
        have N0 : Keep (((beN (s0.take 8) : Nat) : Int) = ((x0 + 1 : Nat) : Int)) := ⟨by rw [(z0.ep (by omega)).now, hx0]⟩
        have N1 : Keep (((beN (s1.take 8) : Nat) : Int) = ((x1 + 1 : Nat) : Int)) := ⟨by rw [(z1.ep (by omega)).now, hx1]⟩
        have K0 : Keep (bakeS s0 eB eB = deriveB y0 cookieB [eB, eB, ba (Mac.len8 (x0 + 1))]) := ⟨by rw [hs0]; exact bake_key x0 y0 _ _⟩
        have K1 : Keep (bakeS s1 xB nB = deriveB y1 cookieB [xB, nB, ba (Mac.len8 (x1 + 1))]) := ⟨by rw [hs1]; exact bake_key x1 y1 _ _⟩
        have Q0 := Keep.mk (And.intro j0 (And.intro hy0 hz0))
        have Q1 := Keep.mk (And.intro j1 (And.intro hy1 hz1))
        have V0 := Keep.mk (HS.out.p0.ro.rv (by omega))
        have V1 := Keep.mk (HS.out.p1.ro.rv (by omega))
        clear j0 j1 z0 z1 hy0 hy1 hs0 hs1
        go_wp2_with fail
        have gd := gr_drewN wr 1 none
        refine wp_region_held_drew (S := fun w' => wr.grownBy w' none) (by kernel_rfl) gd (fun hHeld => ?_)
        generalize wr.drew = wa at hHeld ⊢
        clear gd
        refine wpAnyH_take (i := 0) (oi := _) (v := ?_) rfl (by kernel_rfl) (by kernel_rfl) (by kernel_rfl) (fun _ _ _ h => h) (Or.inl ⟨by rfl, ?_⟩) (by assumption) ?_
        rotate_left
        · (intro w hSw; go_simp; first | done | (with_reducible rfl))
        simp only [Act.put, List.getElem_toArray, List.getElem_cons_zero, List.setIfInBounds_toArray, List.set_cons_zero, List.set_cons_succ]
        refine wpAnyH_take (i := 1) (oi := _) (v := ?_) rfl (by kernel_rfl) (by kernel_rfl) (by kernel_rfl) (fun _ _ _ h => h) (Or.inl ⟨by rfl, ?_⟩) (by assumption) ?_
        rotate_left
        · (intro w hSw; go_simp; first | done | (with_reducible rfl))
        simp only [Act.put, List.getElem_toArray, List.getElem_cons_succ, List.getElem_cons_zero, List.setIfInBounds_toArray, List.set_cons_zero, List.set_cons_succ]
        refine wpAnyH_take (i := 2) (oi := _) (v := ?_) rfl (by kernel_rfl) (by kernel_rfl) (by kernel_rfl) (fun _ _ _ h => h) (Or.inl ⟨by rfl, ?_⟩) (by assumption) ?_
        rotate_left
        · (intro w hSw; have y1 := (HS.out.grow hSw).hj.cellv 0 _ rfl; have y2 := (HS.out.grow hSw).hj.cellv 1 _ rfl; have y3 := (HS.out.grow hSw).hk.cellv 0 _ rfl; have y4 := (HS.out.grow hSw).hk.cellv 1 _ rfl; clear hSw; go_simp; first | done | (with_reducible rfl))
        simp only [Act.put, List.getElem_toArray, List.getElem_cons_succ, List.getElem_cons_zero, List.setIfInBounds_toArray, List.set_cons_zero, List.set_cons_succ]
        refine wpAnyH_take (i := 4) (oi := _) (v := ?_) rfl (by kernel_rfl) (by kernel_rfl) (by kernel_rfl) (fun _ _ _ h => h) (Or.inl ⟨by rfl, ?_⟩) (by assumption) ?_
        rotate_left
        · (intro w hSw; go_simp; first | done | (with_reducible rfl))
        simp only [Act.put, List.getElem_toArray, List.getElem_cons_succ, List.getElem_cons_zero, List.setIfInBounds_toArray, List.set_cons_zero, List.set_cons_succ]
        refine wpAnyH_take (i := 5) (oi := _) (v := ?_) rfl (by kernel_rfl) (by kernel_rfl) (by kernel_rfl) (fun _ _ _ h => h) (Or.inl ⟨by rfl, ?_⟩) (by assumption) ?_
        rotate_left
        · (intro w hSw; go_simp; first | done | (with_reducible rfl))
        simp only [Act.put, List.getElem_toArray, List.getElem_cons_succ, List.getElem_cons_zero, List.setIfInBounds_toArray, List.set_cons_zero, List.set_cons_succ]
        refine wpAnyH_take (i := 6) (oi := _) (v := ?_) rfl (by kernel_rfl) (by kernel_rfl) (by kernel_rfl) (fun _ _ _ h => h) (Or.inl ⟨by rfl, ?_⟩) (by assumption) ?_
        rotate_left
        · (intro w hSw; have y1 := (HS.out.grow hSw).hj.cellv 0 _ rfl; have y2 := (HS.out.grow hSw).hj.cellv 1 _ rfl; have y3 := (HS.out.grow hSw).hk.cellv 0 _ rfl; have y4 := (HS.out.grow hSw).hk.cellv 1 _ rfl; clear hSw; go_simp; first | done | (with_reducible rfl))
        simp only [Act.put, List.getElem_toArray, List.getElem_cons_succ, List.getElem_cons_zero, List.setIfInBounds_toArray, List.set_cons_zero, List.set_cons_succ]
        refine wpAnyH_ready (rs := [3]) (by kernel_rfl) (by simp) ?_
        refine AllReadyH.cons rfl (fun K hK => ?_) AllReadyH.nil
        go_simp
        go_wp2_with fail
        refine (jepoch_i b0 s0 a0 _ _ N0.out (Q0.out.1.kept hHeld (by simp))).mono ?_
        rintro e wb ⟨rfl, gg⟩
        refine hK.out _ _ (World.grownBy.trans hHeld gg) (fun hHeld => ?_)
        clear hK K gg
        refine wpAnyH_ready (rs := [7]) (by kernel_rfl) (by simp) ?_
        refine AllReadyH.cons rfl (fun K hK => ?_) AllReadyH.nil
        go_simp
        go_wp2_with fail
        refine (repoch_c k0 _ _ ks0 _ (V0.out.kept hHeld) (by omega)).mono ?_
        rintro e wc ⟨rfl, gg⟩
        refine hK.out _ _ (World.grownBy.trans hHeld gg) (fun hHeld => ?_)
        clear hK K gg
        rw [hx0]
        refine wpAnyH_take (i := 8) (oi := _) (v := ?_) rfl (by kernel_rfl) (by kernel_rfl) (by kernel_rfl) (fun _ _ _ h => h) (Or.inl ⟨by rfl, ?_⟩) (by assumption) ?_
        rotate_left
        · (intro w hSw; go_simp; first | done | (with_reducible rfl))
        simp only [Act.put, List.getElem_toArray, List.getElem_cons_succ, List.getElem_cons_zero, List.setIfInBounds_toArray, List.set_cons_zero, List.set_cons_succ]
        refine wpAnyH_take (i := 9) (oi := _) (v := ?_) rfl (by kernel_rfl) (by kernel_rfl) (by kernel_rfl) (fun _ _ _ h => h) (Or.inl ⟨by rfl, ?_⟩) (by assumption) ?_
        rotate_left
        · (intro w hSw; go_simp; first | done | (with_reducible rfl))
        simp only [Act.put, List.getElem_toArray, List.getElem_cons_succ, List.getElem_cons_zero, List.setIfInBounds_toArray, List.set_cons_zero, List.set_cons_succ]
        refine wpAnyH_take (i := 10) (oi := _) (v := ?_) rfl (by kernel_rfl) (by kernel_rfl) (by kernel_rfl) (fun _ _ _ h => h) (Or.inl ⟨by rfl, ?_⟩) (by assumption) ?_
        rotate_left
        · (intro w hSw; go_simp; first | done | (with_reducible rfl))
        simp only [Act.put, List.getElem_toArray, List.getElem_cons_succ, List.getElem_cons_zero, List.setIfInBounds_toArray, List.set_cons_zero, List.set_cons_succ]
        refine wpAnyH_take (i := 11) (oi := _) (v := ?_) rfl (by kernel_rfl) (by kernel_rfl) (by kernel_rfl) (fun _ _ _ h => h) (Or.inl ⟨by rfl, ?_⟩) (by assumption) ?_
        rotate_left
        · (intro w hSw; go_simp; first | done | (with_reducible rfl))
        simp only [Act.put, List.getElem_toArray, List.getElem_cons_succ, List.getElem_cons_zero, List.setIfInBounds_toArray, List.set_cons_zero, List.set_cons_succ]
        refine wpAnyH_take (i := 12) (oi := _) (v := ?_) rfl (by kernel_rfl) (by kernel_rfl) (by kernel_rfl) (fun _ _ _ h => h) (Or.inl ⟨by rfl, ?_⟩) (by assumption) ?_
        rotate_left
        · (intro w hSw; have y1 := (HS.out.grow hSw).hj.cellv 0 _ rfl; have y2 := (HS.out.grow hSw).hj.cellv 1 _ rfl; have y3 := (HS.out.grow hSw).hk.cellv 0 _ rfl; have y4 := (HS.out.grow hSw).hk.cellv 1 _ rfl; clear hSw; go_simp; first | done | (with_reducible rfl))
        simp only [Act.put, List.getElem_toArray, List.getElem_cons_succ, List.getElem_cons_zero, List.setIfInBounds_toArray, List.set_cons_zero, List.set_cons_succ]
        refine wpAnyH_take (i := 14) (oi := _) (v := ?_) rfl (by kernel_rfl) (by kernel_rfl) (by kernel_rfl) (fun _ _ _ h => h) (Or.inl ⟨by rfl, ?_⟩) (by assumption) ?_
        rotate_left
        · (intro w hSw; go_simp; first | done | (with_reducible rfl))
        simp only [Act.put, List.getElem_toArray, List.getElem_cons_succ, List.getElem_cons_zero, List.setIfInBounds_toArray, List.set_cons_zero, List.set_cons_succ]
        refine wpAnyH_take (i := 15) (oi := _) (v := ?_) rfl (by kernel_rfl) (by kernel_rfl) (by kernel_rfl) (fun _ _ _ h => h) (Or.inl ⟨by rfl, ?_⟩) (by assumption) ?_
        rotate_left
        · (intro w hSw; go_simp; first | done | (with_reducible rfl))
        simp only [Act.put, List.getElem_toArray, List.getElem_cons_succ, List.getElem_cons_zero, List.setIfInBounds_toArray, List.set_cons_zero, List.set_cons_succ]
        refine wpAnyH_take (i := 16) (oi := _) (v := ?_) rfl (by kernel_rfl) (by kernel_rfl) (by kernel_rfl) (fun _ _ _ h => h) (Or.inl ⟨by rfl, ?_⟩) (by assumption) ?_
        rotate_left
        · (intro w hSw; have y1 := (HS.out.grow hSw).hj.cellv 0 _ rfl; have y2 := (HS.out.grow hSw).hj.cellv 1 _ rfl; have y3 := (HS.out.grow hSw).hk.cellv 0 _ rfl; have y4 := (HS.out.grow hSw).hk.cellv 1 _ rfl; clear hSw; go_simp; first | done | (with_reducible rfl))
        simp only [Act.put, List.getElem_toArray, List.getElem_cons_succ, List.getElem_cons_zero, List.setIfInBounds_toArray, List.set_cons_zero, List.set_cons_succ]
        refine wpAnyH_ready (rs := [13]) (by kernel_rfl) (by simp) ?_
        refine AllReadyH.cons rfl (fun K hK => ?_) AllReadyH.nil
        go_simp
        go_wp2_with fail
        refine (jepoch_i b1 s1 a1 _ _ N1.out (Q1.out.1.kept hHeld (by simp))).mono ?_
        rintro e wd ⟨rfl, gg⟩
        refine hK.out _ _ (World.grownBy.trans hHeld gg) (fun hHeld => ?_)
        clear hK K gg
        refine wpAnyH_ready (rs := [17]) (by kernel_rfl) (by simp) ?_
        refine AllReadyH.cons rfl (fun K hK => ?_) AllReadyH.nil
        go_simp
        go_wp2_with fail
        refine (repoch_c k1 _ _ ks1 _ (V1.out.kept hHeld) (by omega)).mono ?_
        rintro e we ⟨rfl, gg⟩
        refine hK.out _ _ (World.grownBy.trans hHeld gg) (fun hHeld => ?_)
        clear hK K gg
        rw [hx1]
        refine wpAnyH_take (i := 18) (oi := _) (v := ?_) rfl (by kernel_rfl) (by kernel_rfl) (by kernel_rfl) (fun _ _ _ h => h) (Or.inl ⟨by rfl, ?_⟩) (by assumption) ?_
        rotate_left
        · (intro w hSw; go_simp; first | done | (with_reducible rfl))
        simp only [Act.put, List.getElem_toArray, List.getElem_cons_succ, List.getElem_cons_zero, List.setIfInBounds_toArray, List.set_cons_zero, List.set_cons_succ]
        refine wpAnyH_take (i := 19) (oi := _) (v := ?_) rfl (by kernel_rfl) (by kernel_rfl) (by kernel_rfl) (fun _ _ _ h => h) (Or.inl ⟨by rfl, ?_⟩) (by assumption) ?_
        rotate_left
        · (intro w hSw; go_simp; first | done | (with_reducible rfl))
        simp only [Act.put, List.getElem_toArray, List.getElem_cons_succ, List.getElem_cons_zero, List.setIfInBounds_toArray, List.set_cons_zero, List.set_cons_succ]
        refine wpAnyH_take (i := 20) (oi := _) (v := ?_) rfl (by kernel_rfl) (by kernel_rfl) (by kernel_rfl) (fun _ _ _ h => h) (Or.inl ⟨by rfl, ?_⟩) (by assumption) ?_
        rotate_left
        · (intro w hSw; go_simp; first | done | (with_reducible rfl))
        simp only [Act.put, List.getElem_toArray, List.getElem_cons_succ, List.getElem_cons_zero, List.setIfInBounds_toArray, List.set_cons_zero, List.set_cons_succ]
        refine wpAnyH_take (i := 21) (oi := _) (v := ?_) rfl (by kernel_rfl) (by kernel_rfl) (by kernel_rfl) (fun _ _ _ h => h) (Or.inl ⟨by rfl, ?_⟩) (by assumption) ?_
        rotate_left
        · (intro w hSw; go_simp; first | done | (with_reducible rfl))
        simp only [Act.put, List.getElem_toArray, List.getElem_cons_succ, List.getElem_cons_zero, List.setIfInBounds_toArray, List.set_cons_zero, List.set_cons_succ]
        refine wpAnyH_take (i := 22) (oi := _) (v := ?_) rfl (by kernel_rfl) (by kernel_rfl) (by kernel_rfl) (fun _ _ _ h => h) (Or.inl ⟨by rfl, ?_⟩) (by assumption) ?_
        rotate_left
        · (intro w hSw; go_simp; first | done | (with_reducible rfl))
        simp only [Act.put, List.getElem_toArray, List.getElem_cons_succ, List.getElem_cons_zero, List.setIfInBounds_toArray, List.set_cons_zero, List.set_cons_succ]
        refine wpAnyH_take (i := 23) (oi := _) (v := ?_) rfl (by kernel_rfl) (by kernel_rfl) (by kernel_rfl) (fun _ _ _ h => h) (Or.inl ⟨by rfl, ?_⟩) (by assumption) ?_
        rotate_left
        · (intro w hSw; have y1 := (HS.out.grow hSw).hj.cellv 0 _ rfl; have y2 := (HS.out.grow hSw).hj.cellv 1 _ rfl; have y3 := (HS.out.grow hSw).hk.cellv 0 _ rfl; have y4 := (HS.out.grow hSw).hk.cellv 1 _ rfl; clear hSw; go_simp; first | done | (with_reducible rfl))
        simp only [Act.put, List.getElem_toArray, List.getElem_cons_succ, List.getElem_cons_zero, List.setIfInBounds_toArray, List.set_cons_zero, List.set_cons_succ]
        refine wpAnyH_take (i := 25) (oi := _) (v := ?_) rfl (by kernel_rfl) (by kernel_rfl) (by kernel_rfl) (fun _ _ _ h => h) (Or.inl ⟨by rfl, ?_⟩) (by assumption) ?_
        rotate_left
        · (intro w hSw; go_simp; first | done | (with_reducible rfl))
        simp only [Act.put, List.getElem_toArray, List.getElem_cons_succ, List.getElem_cons_zero, List.setIfInBounds_toArray, List.set_cons_zero, List.set_cons_succ]
        refine wpAnyH_take (i := 26) (oi := _) (v := ?_) rfl (by kernel_rfl) (by kernel_rfl) (by kernel_rfl) (fun _ _ _ h => h) (Or.inl ⟨by rfl, ?_⟩) (by assumption) ?_
        rotate_left
        · (intro w hSw; go_simp; first | done | (with_reducible rfl))
        simp only [Act.put, List.getElem_toArray, List.getElem_cons_succ, List.getElem_cons_zero, List.setIfInBounds_toArray, List.set_cons_zero, List.set_cons_succ]
        refine wpAnyH_take (i := 27) (oi := _) (v := ?_) rfl (by kernel_rfl) (by kernel_rfl) (by kernel_rfl) (fun _ _ _ h => h) (Or.inl ⟨by rfl, ?_⟩) (by assumption) ?_
        rotate_left
        · (intro w hSw; have y1 := (HS.out.grow hSw).hj.cellv 0 _ rfl; have y2 := (HS.out.grow hSw).hj.cellv 1 _ rfl; have y3 := (HS.out.grow hSw).hk.cellv 0 _ rfl; have y4 := (HS.out.grow hSw).hk.cellv 1 _ rfl; clear hSw; go_simp; first | done | (with_reducible rfl))
        simp only [Act.put, List.getElem_toArray, List.getElem_cons_succ, List.getElem_cons_zero, List.setIfInBounds_toArray, List.set_cons_zero, List.set_cons_succ]
        refine wpAnyH_ready (rs := [24]) (by kernel_rfl) (by simp) ?_
        refine AllReadyH.cons rfl (fun K hK => ?_) AllReadyH.nil
        go_simp
        go_wp2_with fail
        refine (jbake_i b0 s0 a0 eB eB _ _ K0.out (Q0.out.1.kept hHeld (by simp)) (HS.out.d.k.kept hHeld (by simp)) (by decide) (by decide)).mono ?_
        rintro e wf ⟨rfl, gg⟩
        refine hK.out _ _ (World.grownBy.trans hHeld gg) (fun hHeld => ?_)
        clear hK K gg
        refine wpAnyH_ready (rs := [28]) (by kernel_rfl) (by simp) ?_
        refine AllReadyH.cons rfl (fun K hK => ?_) AllReadyH.nil
        go_simp
        go_wp2_with fail
        refine (rbake_c k0 _ _ ks0 eB eB y0 x0 _ (V0.out.kept hHeld) (HS.out.d.r.kept hHeld) (Nat.le_trans HS.out.d.n (World.grownBy.size hHeld)) hx0 Q0.out.2.1 (by omega) Q0.out.2.2 (by decide) (by decide)).mono ?_
        rintro e wg ⟨rfl, gg⟩
        refine hK.out _ _ (World.grownBy.trans hHeld gg) (fun hHeld => ?_)
        clear hK K gg
        generalize deriveB y0 cookieB _ = r0
        refine wpAnyH_take (i := 29) (oi := _) (v := ?_) rfl (by kernel_rfl) (by kernel_rfl) (by kernel_rfl) (fun _ _ _ h => h) (Or.inl ⟨by rfl, ?_⟩) (by assumption) ?_
        rotate_left
        · (intro w hSw; go_simp; first | done | (with_reducible rfl))
        simp only [Act.put, List.getElem_toArray, List.getElem_cons_succ, List.getElem_cons_zero, List.setIfInBounds_toArray, List.set_cons_zero, List.set_cons_succ]
        refine wpAnyH_take (i := 30) (oi := _) (v := ?_) rfl (by kernel_rfl) (by kernel_rfl) (by kernel_rfl) (fun _ _ _ h => h) (Or.inl ⟨by rfl, ?_⟩) (by assumption) ?_
        rotate_left
        · (intro w hSw; go_simp; first | done | (with_reducible rfl))
        simp only [Act.put, List.getElem_toArray, List.getElem_cons_succ, List.getElem_cons_zero, List.setIfInBounds_toArray, List.set_cons_zero, List.set_cons_succ]
        refine wpAnyH_take (i := 31) (oi := _) (v := ?_) rfl (by kernel_rfl) (by kernel_rfl) (by kernel_rfl) (fun _ _ _ h => h) (Or.inl ⟨by rfl, ?_⟩) (by assumption) ?_
        rotate_left
        · (intro w hSw; go_simp; first | done | (with_reducible rfl))
        simp only [Act.put, List.getElem_toArray, List.getElem_cons_succ, List.getElem_cons_zero, List.setIfInBounds_toArray, List.set_cons_zero, List.set_cons_succ]
        refine wpAnyH_take (i := 32) (oi := _) (v := ?_) rfl (by kernel_rfl) (by kernel_rfl) (by kernel_rfl) (fun _ _ _ h => h) (Or.inl ⟨by rfl, ?_⟩) (by assumption) ?_
        rotate_left
        · (intro w hSw; go_simp; first | done | (with_reducible rfl))
        simp only [Act.put, List.getElem_toArray, List.getElem_cons_succ, List.getElem_cons_zero, List.setIfInBounds_toArray, List.set_cons_zero, List.set_cons_succ]
        refine wpAnyH_take (i := 33) (oi := _) (v := ?_) rfl (by kernel_rfl) (by kernel_rfl) (by kernel_rfl) (fun _ _ _ h => h) (Or.inl ⟨by rfl, ?_⟩) (by assumption) ?_
        rotate_left
        · (intro w hSw; go_simp; first | done | (with_reducible rfl))
        simp only [Act.put, List.getElem_toArray, List.getElem_cons_succ, List.getElem_cons_zero, List.setIfInBounds_toArray, List.set_cons_zero, List.set_cons_succ]
        refine wpAnyH_take (i := 34) (oi := _) (v := ?_) rfl (by kernel_rfl) (by kernel_rfl) (by kernel_rfl) (fun _ _ _ h => h) (Or.inl ⟨by rfl, ?_⟩) (by assumption) ?_
        rotate_left
        · (intro w hSw; have y1 := (HS.out.grow hSw).hj.cellv 0 _ rfl; have y2 := (HS.out.grow hSw).hj.cellv 1 _ rfl; have y3 := (HS.out.grow hSw).hk.cellv 0 _ rfl; have y4 := (HS.out.grow hSw).hk.cellv 1 _ rfl; clear hSw; go_simp; first | done | (with_reducible rfl))
        simp only [Act.put, List.getElem_toArray, List.getElem_cons_succ, List.getElem_cons_zero, List.setIfInBounds_toArray, List.set_cons_zero, List.set_cons_succ]
        refine wpAnyH_take (i := 36) (oi := _) (v := ?_) rfl (by kernel_rfl) (by kernel_rfl) (by kernel_rfl) (fun _ _ _ h => h) (Or.inl ⟨by rfl, ?_⟩) (by assumption) ?_
        rotate_left
        · (intro w hSw; go_simp; first | done | (with_reducible rfl))
        simp only [Act.put, List.getElem_toArray, List.getElem_cons_succ, List.getElem_cons_zero, List.setIfInBounds_toArray, List.set_cons_zero, List.set_cons_succ]
        refine wpAnyH_take (i := 37) (oi := _) (v := ?_) rfl (by kernel_rfl) (by kernel_rfl) (by kernel_rfl) (fun _ _ _ h => h) (Or.inl ⟨by rfl, ?_⟩) (by assumption) ?_
        rotate_left
        · (intro w hSw; go_simp; first | done | (with_reducible rfl))
        simp only [Act.put, List.getElem_toArray, List.getElem_cons_succ, List.getElem_cons_zero, List.setIfInBounds_toArray, List.set_cons_zero, List.set_cons_succ]
        refine wpAnyH_take (i := 38) (oi := _) (v := ?_) rfl (by kernel_rfl) (by kernel_rfl) (by kernel_rfl) (fun _ _ _ h => h) (Or.inl ⟨by rfl, ?_⟩) (by assumption) ?_
        rotate_left
        · (intro w hSw; have y1 := (HS.out.grow hSw).hj.cellv 0 _ rfl; have y2 := (HS.out.grow hSw).hj.cellv 1 _ rfl; have y3 := (HS.out.grow hSw).hk.cellv 0 _ rfl; have y4 := (HS.out.grow hSw).hk.cellv 1 _ rfl; clear hSw; go_simp; first | done | (with_reducible rfl))
        simp only [Act.put, List.getElem_toArray, List.getElem_cons_succ, List.getElem_cons_zero, List.setIfInBounds_toArray, List.set_cons_zero, List.set_cons_succ]
        refine wpAnyH_ready (rs := [35]) (by kernel_rfl) (by simp) ?_
        refine AllReadyH.cons rfl (fun K hK => ?_) AllReadyH.nil
        go_simp
        go_wp2_with fail
        refine (jbake_i b1 s1 a1 xB nB _ _ K1.out (Q1.out.1.kept hHeld (by simp)) (HS.out.d.k.kept hHeld (by simp)) (by decide) (by decide)).mono ?_
        rintro e wh ⟨rfl, gg⟩
        refine hK.out _ _ (World.grownBy.trans hHeld gg) (fun hHeld => ?_)
        clear hK K gg
        refine wpAnyH_ready (rs := [39]) (by kernel_rfl) (by simp) ?_
        refine AllReadyH.cons rfl (fun K hK => ?_) AllReadyH.nil
        go_simp
        go_wp2_with fail
        refine (rbake_c k1 _ _ ks1 xB nB y1 x1 _ (V1.out.kept hHeld) (HS.out.d.r.kept hHeld) (Nat.le_trans HS.out.d.n (World.grownBy.size hHeld)) hx1 Q1.out.2.1 (by omega) Q1.out.2.2 (by decide) (by decide)).mono ?_
        rintro e wi ⟨rfl, gg⟩
        refine hK.out _ _ (World.grownBy.trans hHeld gg) (fun hHeld => ?_)
        clear hK K gg
        generalize deriveB y1 cookieB _ = r1
        refine wpAnyH_take (i := 40) (oi := _) (v := ?_) rfl (by kernel_rfl) (by kernel_rfl) (by kernel_rfl) (fun _ _ _ h => h) (Or.inl ⟨by rfl, ?_⟩) (by assumption) ?_
        rotate_left
        · (intro w hSw; go_simp; first | done | (with_reducible rfl))
        simp only [Act.put, List.getElem_toArray, List.getElem_cons_succ, List.getElem_cons_zero, List.setIfInBounds_toArray, List.set_cons_zero, List.set_cons_succ]
        refine wpAnyH_take (i := 41) (oi := _) (v := ?_) rfl (by kernel_rfl) (by kernel_rfl) (by kernel_rfl) (fun _ _ _ h => h) (Or.inl ⟨by rfl, ?_⟩) (by assumption) ?_
        rotate_left
        · (intro w hSw; go_simp; first | done | (with_reducible rfl))
        simp only [Act.put, List.getElem_toArray, List.getElem_cons_succ, List.getElem_cons_zero, List.setIfInBounds_toArray, List.set_cons_zero, List.set_cons_succ]
        refine wpAnyH_ready (rs := [42]) (by kernel_rfl) (by simp) ?_
        refine AllReadyH.cons rfl (fun K hK => ?_) AllReadyH.nil
        go_simp
        go_wp2_with fail
        refine hK.out _ _ hHeld (fun hHeld => ?_)
        clear hK K
        refine wpAnyH_done (by kernel_rfl) ?_ _
        have HG := Keep.mk (HS.out.g.trans hHeld)
        clear hHeld
        go_wp2_with fail
        go_ret
        exact ⟨rfl, HG.out⟩
      · obtain ⟨s0, a0, j0, z0⟩ := HS.out.p0.jr
        obtain ⟨s1, a1, j1, z1⟩ := HS.out.p1.jr
        obtain ⟨x0, y0, hx0, hy0, hz0, hs0⟩ := z0.last
        obtain ⟨x1, y1, hx1, hy1, hz1, hs1⟩ := z1.last
        have L0 := HS.out.l0
        have L1 := HS.out.l1
        have N0 : Keep (((beN (s0.take 8) : Nat) : Int) = ((x0 + 1 : Nat) : Int)) := ⟨by rw [(z0.ep (by omega)).now, hx0]⟩
        have N1 : Keep (((beN (s1.take 8) : Nat) : Int) = ((x1 + 1 : Nat) : Int)) := ⟨by rw [(z1.ep (by omega)).now, hx1]⟩
        have K0 : Keep (bakeS s0 eB eB = deriveB y0 cookieB [eB, eB, ba (Mac.len8 (x0 + 1))]) := ⟨by rw [hs0]; exact bake_key x0 y0 _ _⟩
        have K1 : Keep (bakeS s1 xB nB = deriveB y1 cookieB [xB, nB, ba (Mac.len8 (x1 + 1))]) := ⟨by rw [hs1]; exact bake_key x1 y1 _ _⟩
        have Q0 := Keep.mk (And.intro j0 (And.intro hy0 hz0))
        have Q1 := Keep.mk (And.intro j1 (And.intro hy1 hz1))
        have V0 := Keep.mk (HS.out.p0.ro.rv (by omega))
        have V1 := Keep.mk (HS.out.p1.ro.rv (by omega))
        clear j0 j1 z0 z1 hy0 hy1 hs0 hs1
        go_wp2_with fail
        have gd := gr_drewN wr 1 none
        refine wp_region_held_drew (S := fun w' => wr.grownBy w' none) (by kernel_rfl) gd (fun hHeld => ?_)
        generalize wr.drew = wa at hHeld ⊢
        clear gd
        refine wpAnyH_take (i := 0) (oi := _) (v := ?_) rfl (by kernel_rfl) (by kernel_rfl) (by kernel_rfl) (fun _ _ _ h => h) (Or.inl ⟨by rfl, ?_⟩) (by assumption) ?_
        rotate_left
        · (intro w hSw; go_simp; first | done | (with_reducible rfl))
        simp only [Act.put, List.getElem_toArray, List.getElem_cons_zero, List.setIfInBounds_toArray, List.set_cons_zero, List.set_cons_succ]
        refine wpAnyH_take (i := 1) (oi := _) (v := ?_) rfl (by kernel_rfl) (by kernel_rfl) (by kernel_rfl) (fun _ _ _ h => h) (Or.inl ⟨by rfl, ?_⟩) (by assumption) ?_
        rotate_left
        · (intro w hSw; go_simp; first | done | (with_reducible rfl))
        simp only [Act.put, List.getElem_toArray, List.getElem_cons_succ, List.getElem_cons_zero, List.setIfInBounds_toArray, List.set_cons_zero, List.set_cons_succ]
        refine wpAnyH_take (i := 2) (oi := _) (v := ?_) rfl (by kernel_rfl) (by kernel_rfl) (by kernel_rfl) (fun _ _ _ h => h) (Or.inl ⟨by rfl, ?_⟩) (by assumption) ?_
        rotate_left
        · (intro w hSw; have y1 := (HS.out.grow hSw).hj.cellv 0 _ rfl; have y2 := (HS.out.grow hSw).hj.cellv 1 _ rfl; have y3 := (HS.out.grow hSw).hk.cellv 0 _ rfl; have y4 := (HS.out.grow hSw).hk.cellv 1 _ rfl; clear hSw; go_simp; first | done | (with_reducible rfl))
        simp only [Act.put, List.getElem_toArray, List.getElem_cons_succ, List.getElem_cons_zero, List.setIfInBounds_toArray, List.set_cons_zero, List.set_cons_succ]
        refine wpAnyH_take (i := 4) (oi := _) (v := ?_) rfl (by kernel_rfl) (by kernel_rfl) (by kernel_rfl) (fun _ _ _ h => h) (Or.inl ⟨by rfl, ?_⟩) (by assumption) ?_
        rotate_left
        · (intro w hSw; go_simp; first | done | (with_reducible rfl))
        simp only [Act.put, List.getElem_toArray, List.getElem_cons_succ, List.getElem_cons_zero, List.setIfInBounds_toArray, List.set_cons_zero, List.set_cons_succ]
        refine wpAnyH_take (i := 5) (oi := _) (v := ?_) rfl (by kernel_rfl) (by kernel_rfl) (by kernel_rfl) (fun _ _ _ h => h) (Or.inl ⟨by rfl, ?_⟩) (by assumption) ?_
        rotate_left
        · (intro w hSw; go_simp; first | done | (with_reducible rfl))
        simp only [Act.put, List.getElem_toArray, List.getElem_cons_succ, List.getElem_cons_zero, List.setIfInBounds_toArray, List.set_cons_zero, List.set_cons_succ]
        refine wpAnyH_take (i := 6) (oi := _) (v := ?_) rfl (by kernel_rfl) (by kernel_rfl) (by kernel_rfl) (fun _ _ _ h => h) (Or.inl ⟨by rfl, ?_⟩) (by assumption) ?_
        rotate_left
        · (intro w hSw; have y1 := (HS.out.grow hSw).hj.cellv 0 _ rfl; have y2 := (HS.out.grow hSw).hj.cellv 1 _ rfl; have y3 := (HS.out.grow hSw).hk.cellv 0 _ rfl; have y4 := (HS.out.grow hSw).hk.cellv 1 _ rfl; clear hSw; go_simp; first | done | (with_reducible rfl))
        simp only [Act.put, List.getElem_toArray, List.getElem_cons_succ, List.getElem_cons_zero, List.setIfInBounds_toArray, List.set_cons_zero, List.set_cons_succ]
        refine wpAnyH_ready (rs := [3]) (by kernel_rfl) (by simp) ?_
        refine AllReadyH.cons rfl (fun K hK => ?_) AllReadyH.nil
        go_simp
        go_wp2_with fail
        refine (jepoch_i b0 s0 a0 _ _ N0.out (Q0.out.1.kept hHeld (by simp))).mono ?_
        rintro e wb ⟨rfl, gg⟩
        refine hK.out _ _ (World.grownBy.trans hHeld gg) (fun hHeld => ?_)
        clear hK K gg
        refine wpAnyH_ready (rs := [7]) (by kernel_rfl) (by simp) ?_
        refine AllReadyH.cons rfl (fun K hK => ?_) AllReadyH.nil
        go_simp
        go_wp2_with fail
        refine (repoch_c k0 _ _ ks0 _ (V0.out.kept hHeld) (by omega)).mono ?_
        rintro e wc ⟨rfl, gg⟩
        refine hK.out _ _ (World.grownBy.trans hHeld gg) (fun hHeld => ?_)
        clear hK K gg
        rw [hx0]
        refine wpAnyH_take (i := 8) (oi := _) (v := ?_) rfl (by kernel_rfl) (by kernel_rfl) (by kernel_rfl) (fun _ _ _ h => h) (Or.inl ⟨by rfl, ?_⟩) (by assumption) ?_
        rotate_left
        · (intro w hSw; go_simp; first | done | (with_reducible rfl))
        simp only [Act.put, List.getElem_toArray, List.getElem_cons_succ, List.getElem_cons_zero, List.setIfInBounds_toArray, List.set_cons_zero, List.set_cons_succ]
        refine wpAnyH_take (i := 9) (oi := _) (v := ?_) rfl (by kernel_rfl) (by kernel_rfl) (by kernel_rfl) (fun _ _ _ h => h) (Or.inl ⟨by rfl, ?_⟩) (by assumption) ?_
        rotate_left
        · (intro w hSw; go_simp; first | done | (with_reducible rfl))
        simp only [Act.put, List.getElem_toArray, List.getElem_cons_succ, List.getElem_cons_zero, List.setIfInBounds_toArray, List.set_cons_zero, List.set_cons_succ]
        refine wpAnyH_take (i := 10) (oi := _) (v := ?_) rfl (by kernel_rfl) (by kernel_rfl) (by kernel_rfl) (fun _ _ _ h => h) (Or.inl ⟨by rfl, ?_⟩) (by assumption) ?_
        rotate_left
        · (intro w hSw; go_simp; first | done | (with_reducible rfl))
        simp only [Act.put, List.getElem_toArray, List.getElem_cons_succ, List.getElem_cons_zero, List.setIfInBounds_toArray, List.set_cons_zero, List.set_cons_succ]
        refine wpAnyH_take (i := 11) (oi := _) (v := ?_) rfl (by kernel_rfl) (by kernel_rfl) (by kernel_rfl) (fun _ _ _ h => h) (Or.inl ⟨by rfl, ?_⟩) (by assumption) ?_
        rotate_left
        · (intro w hSw; go_simp; first | done | (with_reducible rfl))
        simp only [Act.put, List.getElem_toArray, List.getElem_cons_succ, List.getElem_cons_zero, List.setIfInBounds_toArray, List.set_cons_zero, List.set_cons_succ]
        refine wpAnyH_take (i := 12) (oi := _) (v := ?_) rfl (by kernel_rfl) (by kernel_rfl) (by kernel_rfl) (fun _ _ _ h => h) (Or.inl ⟨by rfl, ?_⟩) (by assumption) ?_
        rotate_left
        · (intro w hSw; have y1 := (HS.out.grow hSw).hj.cellv 0 _ rfl; have y2 := (HS.out.grow hSw).hj.cellv 1 _ rfl; have y3 := (HS.out.grow hSw).hk.cellv 0 _ rfl; have y4 := (HS.out.grow hSw).hk.cellv 1 _ rfl; clear hSw; go_simp; first | done | (with_reducible rfl))
        simp only [Act.put, List.getElem_toArray, List.getElem_cons_succ, List.getElem_cons_zero, List.setIfInBounds_toArray, List.set_cons_zero, List.set_cons_succ]
        refine wpAnyH_take (i := 14) (oi := _) (v := ?_) rfl (by kernel_rfl) (by kernel_rfl) (by kernel_rfl) (fun _ _ _ h => h) (Or.inl ⟨by rfl, ?_⟩) (by assumption) ?_
        rotate_left
        · (intro w hSw; go_simp; first | done | (with_reducible rfl))
        simp only [Act.put, List.getElem_toArray, List.getElem_cons_succ, List.getElem_cons_zero, List.setIfInBounds_toArray, List.set_cons_zero, List.set_cons_succ]
        refine wpAnyH_take (i := 15) (oi := _) (v := ?_) rfl (by kernel_rfl) (by kernel_rfl) (by kernel_rfl) (fun _ _ _ h => h) (Or.inl ⟨by rfl, ?_⟩) (by assumption) ?_
        rotate_left
        · (intro w hSw; go_simp; first | done | (with_reducible rfl))
        simp only [Act.put, List.getElem_toArray, List.getElem_cons_succ, List.getElem_cons_zero, List.setIfInBounds_toArray, List.set_cons_zero, List.set_cons_succ]
        refine wpAnyH_take (i := 16) (oi := _) (v := ?_) rfl (by kernel_rfl) (by kernel_rfl) (by kernel_rfl) (fun _ _ _ h => h) (Or.inl ⟨by rfl, ?_⟩) (by assumption) ?_
        rotate_left
        · (intro w hSw; have y1 := (HS.out.grow hSw).hj.cellv 0 _ rfl; have y2 := (HS.out.grow hSw).hj.cellv 1 _ rfl; have y3 := (HS.out.grow hSw).hk.cellv 0 _ rfl; have y4 := (HS.out.grow hSw).hk.cellv 1 _ rfl; clear hSw; go_simp; first | done | (with_reducible rfl))
        simp only [Act.put, List.getElem_toArray, List.getElem_cons_succ, List.getElem_cons_zero, List.setIfInBounds_toArray, List.set_cons_zero, List.set_cons_succ]
        refine wpAnyH_ready (rs := [13]) (by kernel_rfl) (by simp) ?_
        refine AllReadyH.cons rfl (fun K hK => ?_) AllReadyH.nil
        go_simp
        go_wp2_with fail
        refine (jepoch_i b1 s1 a1 _ _ N1.out (Q1.out.1.kept hHeld (by simp))).mono ?_
        rintro e wd ⟨rfl, gg⟩
        refine hK.out _ _ (World.grownBy.trans hHeld gg) (fun hHeld => ?_)
        clear hK K gg
        refine wpAnyH_ready (rs := [17]) (by kernel_rfl) (by simp) ?_
        refine AllReadyH.cons rfl (fun K hK => ?_) AllReadyH.nil
        go_simp
        go_wp2_with fail
        refine (repoch_c k1 _ _ ks1 _ (V1.out.kept hHeld) (by omega)).mono ?_
        rintro e we ⟨rfl, gg⟩
        refine hK.out _ _ (World.grownBy.trans hHeld gg) (fun hHeld => ?_)
        clear hK K gg
        rw [hx1]
        refine wpAnyH_take (i := 18) (oi := _) (v := ?_) rfl (by kernel_rfl) (by kernel_rfl) (by kernel_rfl) (fun _ _ _ h => h) (Or.inl ⟨by rfl, ?_⟩) (by assumption) ?_
        rotate_left
        · (intro w hSw; go_simp; first | done | (with_reducible rfl))
        simp only [Act.put, List.getElem_toArray, List.getElem_cons_succ, List.getElem_cons_zero, List.setIfInBounds_toArray, List.set_cons_zero, List.set_cons_succ]
        refine wpAnyH_take (i := 19) (oi := _) (v := ?_) rfl (by kernel_rfl) (by kernel_rfl) (by kernel_rfl) (fun _ _ _ h => h) (Or.inl ⟨by rfl, ?_⟩) (by assumption) ?_
        rotate_left
        · (intro w hSw; go_simp; first | done | (with_reducible rfl))
        simp only [Act.put, List.getElem_toArray, List.getElem_cons_succ, List.getElem_cons_zero, List.setIfInBounds_toArray, List.set_cons_zero, List.set_cons_succ]
        refine wpAnyH_take (i := 20) (oi := _) (v := ?_) rfl (by kernel_rfl) (by kernel_rfl) (by kernel_rfl) (fun _ _ _ h => h) (Or.inl ⟨by rfl, ?_⟩) (by assumption) ?_
        rotate_left
        · (intro w hSw; go_simp; first | done | (with_reducible rfl))
        simp only [Act.put, List.getElem_toArray, List.getElem_cons_succ, List.getElem_cons_zero, List.setIfInBounds_toArray, List.set_cons_zero, List.set_cons_succ]
        refine wpAnyH_take (i := 21) (oi := _) (v := ?_) rfl (by kernel_rfl) (by kernel_rfl) (by kernel_rfl) (fun _ _ _ h => h) (Or.inl ⟨by rfl, ?_⟩) (by assumption) ?_
        rotate_left
        · (intro w hSw; go_simp; first | done | (with_reducible rfl))
        simp only [Act.put, List.getElem_toArray, List.getElem_cons_succ, List.getElem_cons_zero, List.setIfInBounds_toArray, List.set_cons_zero, List.set_cons_succ]
        refine wpAnyH_take (i := 22) (oi := _) (v := ?_) rfl (by kernel_rfl) (by kernel_rfl) (by kernel_rfl) (fun _ _ _ h => h) (Or.inl ⟨by rfl, ?_⟩) (by assumption) ?_
        rotate_left
        · (intro w hSw; go_simp; first | done | (with_reducible rfl))
        simp only [Act.put, List.getElem_toArray, List.getElem_cons_succ, List.getElem_cons_zero, List.setIfInBounds_toArray, List.set_cons_zero, List.set_cons_succ]
        refine wpAnyH_take (i := 23) (oi := _) (v := ?_) rfl (by kernel_rfl) (by kernel_rfl) (by kernel_rfl) (fun _ _ _ h => h) (Or.inl ⟨by rfl, ?_⟩) (by assumption) ?_
        rotate_left
        · (intro w hSw; have y1 := (HS.out.grow hSw).hj.cellv 0 _ rfl; have y2 := (HS.out.grow hSw).hj.cellv 1 _ rfl; have y3 := (HS.out.grow hSw).hk.cellv 0 _ rfl; have y4 := (HS.out.grow hSw).hk.cellv 1 _ rfl; clear hSw; go_simp; first | done | (with_reducible rfl))
        simp only [Act.put, List.getElem_toArray, List.getElem_cons_succ, List.getElem_cons_zero, List.setIfInBounds_toArray, List.set_cons_zero, List.set_cons_succ]
        refine wpAnyH_take (i := 25) (oi := _) (v := ?_) rfl (by kernel_rfl) (by kernel_rfl) (by kernel_rfl) (fun _ _ _ h => h) (Or.inl ⟨by rfl, ?_⟩) (by assumption) ?_
        rotate_left
        · (intro w hSw; go_simp; first | done | (with_reducible rfl))
        simp only [Act.put, List.getElem_toArray, List.getElem_cons_succ, List.getElem_cons_zero, List.setIfInBounds_toArray, List.set_cons_zero, List.set_cons_succ]
        refine wpAnyH_take (i := 26) (oi := _) (v := ?_) rfl (by kernel_rfl) (by kernel_rfl) (by kernel_rfl) (fun _ _ _ h => h) (Or.inl ⟨by rfl, ?_⟩) (by assumption) ?_
        rotate_left
        · (intro w hSw; go_simp; first | done | (with_reducible rfl))
        simp only [Act.put, List.getElem_toArray, List.getElem_cons_succ, List.getElem_cons_zero, List.setIfInBounds_toArray, List.set_cons_zero, List.set_cons_succ]
        refine wpAnyH_take (i := 27) (oi := _) (v := ?_) rfl (by kernel_rfl) (by kernel_rfl) (by kernel_rfl) (fun _ _ _ h => h) (Or.inl ⟨by rfl, ?_⟩) (by assumption) ?_
        rotate_left
        · (intro w hSw; have y1 := (HS.out.grow hSw).hj.cellv 0 _ rfl; have y2 := (HS.out.grow hSw).hj.cellv 1 _ rfl; have y3 := (HS.out.grow hSw).hk.cellv 0 _ rfl; have y4 := (HS.out.grow hSw).hk.cellv 1 _ rfl; clear hSw; go_simp; first | done | (with_reducible rfl))
        simp only [Act.put, List.getElem_toArray, List.getElem_cons_succ, List.getElem_cons_zero, List.setIfInBounds_toArray, List.set_cons_zero, List.set_cons_succ]
        refine wpAnyH_ready (rs := [24]) (by kernel_rfl) (by simp) ?_
        refine AllReadyH.cons rfl (fun K hK => ?_) AllReadyH.nil
        go_simp
        go_wp2_with fail
        refine (jbake_i b0 s0 a0 eB eB _ _ K0.out (Q0.out.1.kept hHeld (by simp)) (HS.out.d.k.kept hHeld (by simp)) (by decide) (by decide)).mono ?_
        rintro e wf ⟨rfl, gg⟩
        refine hK.out _ _ (World.grownBy.trans hHeld gg) (fun hHeld => ?_)
        clear hK K gg
        refine wpAnyH_ready (rs := [28]) (by kernel_rfl) (by simp) ?_
        refine AllReadyH.cons rfl (fun K hK => ?_) AllReadyH.nil
        go_simp
        go_wp2_with fail
        refine (rbake_c k0 _ _ ks0 eB eB y0 x0 _ (V0.out.kept hHeld) (HS.out.d.r.kept hHeld) (Nat.le_trans HS.out.d.n (World.grownBy.size hHeld)) hx0 Q0.out.2.1 (by omega) Q0.out.2.2 (by decide) (by decide)).mono ?_
        rintro e wg ⟨rfl, gg⟩
        refine hK.out _ _ (World.grownBy.trans hHeld gg) (fun hHeld => ?_)
        clear hK K gg
        generalize deriveB y0 cookieB _ = r0
        refine wpAnyH_take (i := 29) (oi := _) (v := ?_) rfl (by kernel_rfl) (by kernel_rfl) (by kernel_rfl) (fun _ _ _ h => h) (Or.inl ⟨by rfl, ?_⟩) (by assumption) ?_
        rotate_left
        · (intro w hSw; go_simp; first | done | (with_reducible rfl))
        simp only [Act.put, List.getElem_toArray, List.getElem_cons_succ, List.getElem_cons_zero, List.setIfInBounds_toArray, List.set_cons_zero, List.set_cons_succ]
        refine wpAnyH_take (i := 30) (oi := _) (v := ?_) rfl (by kernel_rfl) (by kernel_rfl) (by kernel_rfl) (fun _ _ _ h => h) (Or.inl ⟨by rfl, ?_⟩) (by assumption) ?_
        rotate_left
        · (intro w hSw; go_simp; first | done | (with_reducible rfl))
        simp only [Act.put, List.getElem_toArray, List.getElem_cons_succ, List.getElem_cons_zero, List.setIfInBounds_toArray, List.set_cons_zero, List.set_cons_succ]
        refine wpAnyH_take (i := 31) (oi := _) (v := ?_) rfl (by kernel_rfl) (by kernel_rfl) (by kernel_rfl) (fun _ _ _ h => h) (Or.inl ⟨by rfl, ?_⟩) (by assumption) ?_
        rotate_left
        · (intro w hSw; go_simp; first | done | (with_reducible rfl))
        simp only [Act.put, List.getElem_toArray, List.getElem_cons_succ, List.getElem_cons_zero, List.setIfInBounds_toArray, List.set_cons_zero, List.set_cons_succ]
        refine wpAnyH_take (i := 32) (oi := _) (v := ?_) rfl (by kernel_rfl) (by kernel_rfl) (by kernel_rfl) (fun _ _ _ h => h) (Or.inl ⟨by rfl, ?_⟩) (by assumption) ?_
        rotate_left
        · (intro w hSw; go_simp; first | done | (with_reducible rfl))
        simp only [Act.put, List.getElem_toArray, List.getElem_cons_succ, List.getElem_cons_zero, List.setIfInBounds_toArray, List.set_cons_zero, List.set_cons_succ]
        refine wpAnyH_take (i := 33) (oi := _) (v := ?_) rfl (by kernel_rfl) (by kernel_rfl) (by kernel_rfl) (fun _ _ _ h => h) (Or.inl ⟨by rfl, ?_⟩) (by assumption) ?_
        rotate_left
        · (intro w hSw; go_simp; first | done | (with_reducible rfl))
        simp only [Act.put, List.getElem_toArray, List.getElem_cons_succ, List.getElem_cons_zero, List.setIfInBounds_toArray, List.set_cons_zero, List.set_cons_succ]
        refine wpAnyH_take (i := 34) (oi := _) (v := ?_) rfl (by kernel_rfl) (by kernel_rfl) (by kernel_rfl) (fun _ _ _ h => h) (Or.inl ⟨by rfl, ?_⟩) (by assumption) ?_
        rotate_left
        · (intro w hSw; have y1 := (HS.out.grow hSw).hj.cellv 0 _ rfl; have y2 := (HS.out.grow hSw).hj.cellv 1 _ rfl; have y3 := (HS.out.grow hSw).hk.cellv 0 _ rfl; have y4 := (HS.out.grow hSw).hk.cellv 1 _ rfl; clear hSw; go_simp; first | done | (with_reducible rfl))
        simp only [Act.put, List.getElem_toArray, List.getElem_cons_succ, List.getElem_cons_zero, List.setIfInBounds_toArray, List.set_cons_zero, List.set_cons_succ]
        refine wpAnyH_take (i := 36) (oi := _) (v := ?_) rfl (by kernel_rfl) (by kernel_rfl) (by kernel_rfl) (fun _ _ _ h => h) (Or.inl ⟨by rfl, ?_⟩) (by assumption) ?_
        rotate_left
        · (intro w hSw; go_simp; first | done | (with_reducible rfl))
        simp only [Act.put, List.getElem_toArray, List.getElem_cons_succ, List.getElem_cons_zero, List.setIfInBounds_toArray, List.set_cons_zero, List.set_cons_succ]
        refine wpAnyH_take (i := 37) (oi := _) (v := ?_) rfl (by kernel_rfl) (by kernel_rfl) (by kernel_rfl) (fun _ _ _ h => h) (Or.inl ⟨by rfl, ?_⟩) (by assumption) ?_
        rotate_left
        · (intro w hSw; go_simp; first | done | (with_reducible rfl))
        simp only [Act.put, List.getElem_toArray, List.getElem_cons_succ, List.getElem_cons_zero, List.setIfInBounds_toArray, List.set_cons_zero, List.set_cons_succ]
        refine wpAnyH_take (i := 38) (oi := _) (v := ?_) rfl (by kernel_rfl) (by kernel_rfl) (by kernel_rfl) (fun _ _ _ h => h) (Or.inl ⟨by rfl, ?_⟩) (by assumption) ?_
        rotate_left
        · (intro w hSw; have y1 := (HS.out.grow hSw).hj.cellv 0 _ rfl; have y2 := (HS.out.grow hSw).hj.cellv 1 _ rfl; have y3 := (HS.out.grow hSw).hk.cellv 0 _ rfl; have y4 := (HS.out.grow hSw).hk.cellv 1 _ rfl; clear hSw; go_simp; first | done | (with_reducible rfl))
        simp only [Act.put, List.getElem_toArray, List.getElem_cons_succ, List.getElem_cons_zero, List.setIfInBounds_toArray, List.set_cons_zero, List.set_cons_succ]
        refine wpAnyH_ready (rs := [35]) (by kernel_rfl) (by simp) ?_
        refine AllReadyH.cons rfl (fun K hK => ?_) AllReadyH.nil
        go_simp
        go_wp2_with fail
        refine (jbake_i b1 s1 a1 xB nB _ _ K1.out (Q1.out.1.kept hHeld (by simp)) (HS.out.d.k.kept hHeld (by simp)) (by decide) (by decide)).mono ?_
        rintro e wh ⟨rfl, gg⟩
        refine hK.out _ _ (World.grownBy.trans hHeld gg) (fun hHeld => ?_)
        clear hK K gg
        refine wpAnyH_ready (rs := [39]) (by kernel_rfl) (by simp) ?_
        refine AllReadyH.cons rfl (fun K hK => ?_) AllReadyH.nil
        go_simp
        go_wp2_with fail
        refine (rbake_c k1 _ _ ks1 xB nB y1 x1 _ (V1.out.kept hHeld) (HS.out.d.r.kept hHeld) (Nat.le_trans HS.out.d.n (World.grownBy.size hHeld)) hx1 Q1.out.2.1 (by omega) Q1.out.2.2 (by decide) (by decide)).mono ?_
        rintro e wi ⟨rfl, gg⟩
        refine hK.out _ _ (World.grownBy.trans hHeld gg) (fun hHeld => ?_)
        clear hK K gg
        generalize deriveB y1 cookieB _ = r1
        refine wpAnyH_take (i := 40) (oi := _) (v := ?_) rfl (by kernel_rfl) (by kernel_rfl) (by kernel_rfl) (fun _ _ _ h => h) (Or.inl ⟨by rfl, ?_⟩) (by assumption) ?_
        rotate_left
        · (intro w hSw; go_simp; first | done | (with_reducible rfl))
        simp only [Act.put, List.getElem_toArray, List.getElem_cons_succ, List.getElem_cons_zero, List.setIfInBounds_toArray, List.set_cons_zero, List.set_cons_succ]
        refine wpAnyH_take (i := 41) (oi := _) (v := ?_) rfl (by kernel_rfl) (by kernel_rfl) (by kernel_rfl) (fun _ _ _ h => h) (Or.inl ⟨by rfl, ?_⟩) (by assumption) ?_
        rotate_left
        · (intro w hSw; go_simp; first | done | (with_reducible rfl))
        simp only [Act.put, List.getElem_toArray, List.getElem_cons_succ, List.getElem_cons_zero, List.setIfInBounds_toArray, List.set_cons_zero, List.set_cons_succ]
        refine wpAnyH_ready (rs := [42]) (by kernel_rfl) (by simp) ?_
        refine AllReadyH.cons rfl (fun K hK => ?_) AllReadyH.nil
        go_simp
        go_wp2_with fail
        refine hK.out _ _ hHeld (fun hHeld => ?_)
        clear hK K
        refine wpAnyH_done (by kernel_rfl) ?_ _
        have HG := Keep.mk (HS.out.g.trans hHeld)
        clear hHeld
        go_wp2_with fail
        go_ret
        exact ⟨rfl, HG.out⟩
end Go.Proofs.YtbmnlhmelbhjeaaDoor
