/- the laws' plays: a jar beside the reference's -/
import Derived.Test.YtbmnlhmelbhjeaaDoorCP4
namespace Go.Proofs.YtbmnlhmelbhjeaaDoor
open Go Go.RowKit

theorem FX.of {S : Nat → Prop} {w w' : World} (g : w.grownBy w' none) : FX S w w' := ⟨g.os, g.tape, g.output, g.size, fun k hk _ => g.block k hk (by simp)⟩
theorem FX.one {S : Nat → Prop} {w w' : World} {x : Nat} (g : w.grownBy w' (some x)) (hx : S x) : FX S w w' := ⟨g.os, g.tape, g.output, g.size, fun k hk hs => g.block k hk (fun e => hs (by rw [Option.some.inj e]; exact hx))⟩
theorem FX.trans {S : Nat → Prop} {w w1 w2 : World} (h : FX S w w1) (k : FX S w1 w2) : FX S w w2 := ⟨k.os.trans h.os, k.tape.trans h.tape, k.output.trans h.output, Nat.le_trans h.size k.size, fun i hi hs => (k.block i (Nat.lt_of_lt_of_le hi h.size) hs).trans (h.block i hi hs)⟩
theorem FX.has {S : Nat → Prop} {w w' : World} (h : FX S w w') {b : Nat} {cs : List Value} {t : TypeId} (hb : Has w b cs t) (hs : ¬ S b) : Has w' b cs t := by
  unfold Has at *
  rw [h.block b (by exact Has.lt (t := t) hb) hs]; exact hb
theorem FX.cell {S : Nat → Prop} {w w' : World} (h : FX S w w') {b j : Nat} {v : Value} (hb : w.cell? ⟨b, j, none⟩ = some v) (hs : ¬ S b) : w'.cell? ⟨b, j, none⟩ = some v := by
  have hl : b < w.heap.size := by
    by_cases hl : b < w.heap.size
    · exact hl
    · have : w.heap[b]? = none := by simp; omega
      simp [World.cell?, this] at hb
  rw [← hb]; exact World.cell?_of_block (h.block b hl hs)
theorem FX.kc {S : Nat → Prop} {w w' : World} (h : FX S w w') (hk : Kc w) (hs : ¬ S 0) : Kc w' := fun j hj => h.cell (hk j hj) hs
theorem FX.rk {S : Nat → Prop} {w w' : World} (h : FX S w w') (hk : RK w) (h1 : ¬ S 1) (h2 : ¬ S 2) : RK w' := ⟨fun j hj => h.cell (hk.1 j hj) h1, fun j hj => h.cell (hk.2 j hj) h2⟩
theorem FX.own {S : Nat → Prop} {w w' : World} (h : FX S w w') {base g n cap : Nat} {xs : List Value} (ho : w.ownsRow base 9 1 (.slice (some ⟨g, 0, none⟩) n cap) n xs) (hs : ¬ S g) : w'.ownsRow base 9 1 (.slice (some ⟨g, 0, none⟩) n cap) n xs := by
  have hl := (ho.lt g rfl).2
  obtain ⟨h1, h2⟩ := ho
  refine ⟨h1, ?_⟩
  rcases h2 with ⟨e, _⟩ | ⟨g', c', cur, e, a, b, c⟩
  · cases e
  · injection e with e1 e2 e3
    injection e1 with e1
    injection e1 with e1
    subst e1 e3
    exact .inr ⟨g, cap, cur, rfl, a, by rw [h.block g hl hs]; exact b, c⟩
/-- a jar and the reference's, side by side -/
structure PR (w : World) (b kb base g cap : Nat) (ks : List ByteArray) : Prop where
  jr : ∃ s a, JR w b s a ∧ KS s a ks
  ro : RO w kb base g cap ks
  n1 : b ≠ kb
  n2 : b ≠ g
  lb : base ≤ w.heap.size
theorem PR.move {S : Nat → Prop} {w w' : World} {b kb base g cap : Nat} {ks : List ByteArray} (h : PR w b kb base g cap ks) (f : FX S w w') (h1 : ¬ S b) (h2 : ¬ S kb) (h3 : ¬ S g) : PR w' b kb base g cap ks := by
  obtain ⟨s, a, hj, hk⟩ := h.jr
  exact ⟨⟨s, a, ⟨f.has hj.h h1, hj.ls, hj.la⟩, hk⟩, ⟨f.has h.ro.h h2, f.own h.ro.o h3, h.ro.ne⟩, h.n1, h.n2, Nat.le_trans h.lb f.size⟩
theorem PR.grow {w w' : World} {b kb base g cap : Nat} {ks : List ByteArray} (h : PR w b kb base g cap ks) (gg : w.grownBy w' none) : PR w' b kb base g cap ks := h.move (FX.of (S := fun _ => False) gg) id id id
structure WD (w : World) : Prop where
  k : Kc w
  r : RK w
  n : 3 ≤ w.heap.size
theorem WD.grow {w w' : World} (h : WD w) (g : w.grownBy w' none) : WD w' := ⟨h.k.kept g (by simp), h.r.kept g, Nat.le_trans h.n g.size⟩
theorem WD.move {S : Nat → Prop} {w w' : World} (h : WD w) (f : FX S w w') (hs : ∀ k, S k → 3 ≤ k) : WD w' :=
  ⟨f.kc h.k (fun e => by have := hs _ e; omega), f.rk h.r (fun e => by have := hs _ e; omega) (fun e => by have := hs _ e; omega), Nat.le_trans h.n f.size⟩
def SB (b kb g : Nat) (k : Nat) : Prop := k = b ∨ k = kb ∨ k = g

set_option maxRecDepth 100000 in
set_option maxHeartbeats 8000000 in
theorem plays_c (b kb base g cap : Nat) (ks : List ByteArray) (o : OpR) (w : World) (hP : PR w b kb base g cap ks) (hW : WD w) (hb3 : 3 ≤ b) (hkb3 : 3 ≤ kb) (hg3 : 3 ≤ g) (hl : ks.length ≤ 500) (hok : o.Ok) (hA : o.A.size ≤ 1073741000) (hB : o.B.size ≤ 1073741000) :
    Calls Tryd.prog 18 #[.pointer (some ⟨b, 0, none⟩), .pointer (some ⟨kb, 0, none⟩), .agg o.vals.toArray] w fun e w' => e = .returned (.bool true) ∧ ∃ g' cap' ks', PR w' b kb base g' cap' ks' ∧ ks'.length ≤ ks.length + 1 ∧ (g' = g ∨ w.heap.size ≤ g') ∧ FX (SB b kb g) w w' := by
  have HPW := Keep.mk (And.intro hP hW)
  obtain ⟨s, a, hj, hks⟩ := hP.jr
  obtain ⟨x, key, hx1, hx2, hx3, hx4⟩ := hks.last
  have E := hks.ep (by omega)
  have HOK := Keep.mk hok
  have HX := Keep.mk (And.intro hx2 (And.intro hx3 hx4))
  have HKS := Keep.mk (And.intro hks E)
  have hcap : x + 1 ≤ cap := by
    obtain ⟨g2, c2, e, _, h2, _⟩ := own_str hP.ro.o (by omega)
    injection e with e1 e2 e3
    omega
  have HBK : Keep (∀ f n, bakeS s f n = deriveB key cookieB [f, n, ba (Mac.len8 (x + 1))]) := ⟨fun f n => by rw [hx4]; exact bake_key x key f n⟩
  have HNN : Keep (((beN (s.take 8) : Nat) : Int) = ((x + 1 : Nat) : Int) ∧ beN (s.take 8) < 18446744073709551615) := ⟨by rw [E.now, hx1], by rw [E.now]; omega⟩
  have HOB : Keep (Has (w.alloc (.cells o.vals.toArray 40)) w.heap.size o.vals 40 ∧ w.grownBy (w.alloc (.cells o.vals.toArray 40)) none) := ⟨Has.new _ _ _, World.grownBy_alloc _ _ _⟩
  have HJ : Keep (JR (w.alloc (.cells o.vals.toArray 40)) b s a) := ⟨hj.kept HOB.out.2 (by simp)⟩
  have HJ0 := Keep.mk hj
  have hbw := hj.lt
  have hkw := hP.ro.h.lt
  clear hP hW hj hks hx2 hx4 hok E
  go_enter Tryd.func18, Tryd.ntmps18
  generalize hw0 : w.alloc (.cells o.vals.toArray 40) = w0 at HOB HJ
  have c0 : w0.cell? ⟨w.heap.size, 0, none⟩ = some (.int .i64 o.kind) := HOB.out.1.cellv 0 _ rfl
  have c2 : w0.cell? ⟨w.heap.size, 2, none⟩ = some (.string o.A) := HOB.out.1.cellv 2 _ rfl
  by_cases k1 : o.kind = 1
  · rw [k1] at c0
    subst hw0
    go_wp2_with fail
    refine (turn_c b s a o.A _ HJ.out (HPW.out.2.k.kept HOB.out.2 (by simp)) HNN.out.2 HOK.out.a).mono ?_
    rintro e w1 ⟨rfl, h1, g1⟩
    have F1 := Keep.mk ((FX.of (S := SB b kb g) HOB.out.2).trans (FX.one g1 (.inl rfl)))
    have H1 := Keep.mk (And.intro h1 (And.intro ((HPW.out.1.ro.grow HOB.out.2).other g1 HPW.out.1.n1.symm HPW.out.1.n2.symm) (HOB.out.1.kept g1 (by simp; omega))))
    have d2 : w1.cell? ⟨w.heap.size, 2, none⟩ = some (.string o.A) := H1.out.2.2.cellv 2 _ rfl
    have hsb : ∀ k, SB b kb g k → 3 ≤ k := by
      intro k hk
      rcases hk with rfl | rfl | rfl <;> omega
    have HW1 := Keep.mk (HPW.out.2.move F1.out hsb)
    clear h1 g1 c2
    go_wp2_with fail
    refine (rturn_c kb base g cap ks o.A key x _ H1.out.2.1 HW1.out.r HW1.out.n (Nat.le_trans HPW.out.1.lb F1.out.size) hx1 (by omega) HX.out.1 HX.out.2.1 hA).mono ?_
    rintro e w2 ⟨rfl, g', cap', hro, hg', wm, ga, gb⟩
    have F2 := Keep.mk (F1.out.trans ((FX.one ga (.inr (.inr rfl))).trans (FX.one gb (.inr (.inl rfl)))))
    have HJ2 := Keep.mk (((H1.out.1.kept ga (by simpa using HPW.out.1.n2)).kept gb (by simpa using HPW.out.1.n1)))
    have HRO2 := Keep.mk (And.intro hro hg')
    have HT := Keep.mk (HKS.out.1.turn (by omega) o.A key x hx1 HX.out.1)
    have hs1 := F1.out.size
    clear hro hg' ga gb d2
    generalize hks2 : ks ++ [deriveB key turnB [o.A]] = ks2 at HRO2 HT
    have hl2 : ks2.length = x + 2 := by rw [← hks2, List.length_append, hx1]; rfl
    have E2 := HT.out.ep (by omega)
    have HN2 : Keep (((beN ((turnS s o.A).take 8) : Nat) : Int) = ((x + 2 : Nat) : Int)) := ⟨by rw [E2.now, hl2]⟩
    have HRV2 := Keep.mk (HRO2.out.1.rv (by omega))
    clear hks2 E2
    go_wp2_with fail
    refine (jepoch_i b _ _ _ _ HN2.out HJ2.out).mono ?_
    rintro e w3 ⟨rfl, g3⟩
    have G3 := Keep.mk g3
    clear g3
    go_wp2_with fail
    refine (repoch_c kb _ _ ks2 _ (HRV2.out.kept G3.out) (by omega)).mono ?_
    rintro e w4 ⟨rfl, g4⟩
    have G4 := Keep.mk (G3.out.trans g4)
    clear g4 G3
    rw [hl2]
    go_wp2_with fail
    go_ret
    refine ⟨rfl, g', cap', ks2, ⟨⟨_, _, HJ2.out.kept G4.out (by simp), HT.out⟩, HRO2.out.1.grow G4.out, HPW.out.1.n1, ?_, ?_⟩, by omega, ?_, F2.out.trans (FX.of G4.out)⟩
    · rcases HRO2.out.2 with e | e
      · rw [e]; exact HPW.out.1.n2
      · omega
    · exact Nat.le_trans HPW.out.1.lb (F2.out.trans (FX.of G4.out)).size
    · rcases HRO2.out.2 with e | e
      · exact .inl e
      · exact .inr (Nat.le_trans hs1 e)
  · by_cases k2 : o.kind = 2
    · rw [k2] at c0
      have HRV0 := Keep.mk (HPW.out.1.ro.rv (by omega))
      have HOBX := HOB
      subst hw0
      go_wp2_with fail
      generalize w.alloc (.cells o.vals.toArray 40) = w0 at HOBX HJ ⊢
      have gd := gr_drewN w0 1 none
      refine wp_region_held_drew (S := fun w' => Has w' w.heap.size o.vals 40) (by kernel_rfl) (HOBX.out.1.kept gd (by simp)) (fun hHeld => ?_)
      change w0.grownBy w0.drew none at gd
      generalize w0.drew = w1 at gd hHeld ⊢
      have GD := Keep.mk (HOBX.out.2.trans gd)
      clear gd
      refine wpAnyH_take (i := 0) (oi := _) (v := ?_) rfl (by kernel_rfl) (by kernel_rfl) (by kernel_rfl) (fun _ _ _ h => h) (Or.inl ⟨by rfl, ?_⟩) (by assumption) ?_
      rotate_left
      · (intro w hSw; go_simp; first | done | (with_reducible rfl))
      simp only [Act.put, List.getElem_toArray, List.getElem_cons_zero, List.setIfInBounds_toArray, List.set_cons_zero, List.set_cons_succ]
      refine wpAnyH_take (i := 1) (oi := _) (v := ?_) rfl (by kernel_rfl) (by kernel_rfl) (by kernel_rfl) (fun _ _ _ h => h) (Or.inl ⟨by rfl, ?_⟩) (by assumption) ?_
      rotate_left
      · (intro w hSw; go_simp; first | done | (with_reducible rfl))
      simp only [Act.put, List.getElem_toArray, List.getElem_cons_succ, List.getElem_cons_zero, List.setIfInBounds_toArray, List.set_cons_zero, List.set_cons_succ]
      refine wpAnyH_take (i := 2) (oi := _) (v := ?_) rfl (by kernel_rfl) (by kernel_rfl) (by kernel_rfl) (fun _ _ _ h => h) (Or.inl ⟨by rfl, ?_⟩) (by assumption) ?_
      rotate_left
      · (intro w hSw; have y2 := hSw.cellv 2 _ rfl; have y3 := hSw.cellv 3 _ rfl; have y5 := hSw.cellv 5 _ rfl; clear hSw; go_simp; first | done | (with_reducible rfl))
      simp only [Act.put, List.getElem_toArray, List.getElem_cons_succ, List.getElem_cons_zero, List.setIfInBounds_toArray, List.set_cons_zero, List.set_cons_succ]
      refine wpAnyH_take (i := 3) (oi := _) (v := ?_) rfl (by kernel_rfl) (by kernel_rfl) (by kernel_rfl) (fun _ _ _ h => h) (Or.inl ⟨by rfl, ?_⟩) (by assumption) ?_
      rotate_left
      · (intro w hSw; go_simp; first | done | (with_reducible rfl))
      simp only [Act.put, List.getElem_toArray, List.getElem_cons_succ, List.getElem_cons_zero, List.setIfInBounds_toArray, List.set_cons_zero, List.set_cons_succ]
      refine wpAnyH_take (i := 4) (oi := _) (v := ?_) rfl (by kernel_rfl) (by kernel_rfl) (by kernel_rfl) (fun _ _ _ h => h) (Or.inl ⟨by rfl, ?_⟩) (by assumption) ?_
      rotate_left
      · (intro w hSw; have y2 := hSw.cellv 2 _ rfl; have y3 := hSw.cellv 3 _ rfl; have y5 := hSw.cellv 5 _ rfl; clear hSw; go_simp; first | done | (with_reducible rfl))
      simp only [Act.put, List.getElem_toArray, List.getElem_cons_succ, List.getElem_cons_zero, List.setIfInBounds_toArray, List.set_cons_zero, List.set_cons_succ]
      refine wpAnyH_take (i := 6) (oi := _) (v := ?_) rfl (by kernel_rfl) (by kernel_rfl) (by kernel_rfl) (fun _ _ _ h => h) (Or.inl ⟨by rfl, ?_⟩) (by assumption) ?_
      rotate_left
      · (intro w hSw; go_simp; first | done | (with_reducible rfl))
      simp only [Act.put, List.getElem_toArray, List.getElem_cons_succ, List.getElem_cons_zero, List.setIfInBounds_toArray, List.set_cons_zero, List.set_cons_succ]
      refine wpAnyH_take (i := 7) (oi := _) (v := ?_) rfl (by kernel_rfl) (by kernel_rfl) (by kernel_rfl) (fun _ _ _ h => h) (Or.inl ⟨by rfl, ?_⟩) (by assumption) ?_
      rotate_left
      · (intro w hSw; go_simp; first | done | (with_reducible rfl))
      simp only [Act.put, List.getElem_toArray, List.getElem_cons_succ, List.getElem_cons_zero, List.setIfInBounds_toArray, List.set_cons_zero, List.set_cons_succ]
      refine wpAnyH_take (i := 8) (oi := _) (v := ?_) rfl (by kernel_rfl) (by kernel_rfl) (by kernel_rfl) (fun _ _ _ h => h) (Or.inl ⟨by rfl, ?_⟩) (by assumption) ?_
      rotate_left
      · (intro w hSw; have y2 := hSw.cellv 2 _ rfl; have y3 := hSw.cellv 3 _ rfl; have y5 := hSw.cellv 5 _ rfl; clear hSw; go_simp; first | done | (with_reducible rfl))
      simp only [Act.put, List.getElem_toArray, List.getElem_cons_succ, List.getElem_cons_zero, List.setIfInBounds_toArray, List.set_cons_zero, List.set_cons_succ]
      refine wpAnyH_take (i := 9) (oi := _) (v := ?_) rfl (by kernel_rfl) (by kernel_rfl) (by kernel_rfl) (fun _ _ _ h => h) (Or.inl ⟨by rfl, ?_⟩) (by assumption) ?_
      rotate_left
      · (intro w hSw; go_simp; first | done | (with_reducible rfl))
      simp only [Act.put, List.getElem_toArray, List.getElem_cons_succ, List.getElem_cons_zero, List.setIfInBounds_toArray, List.set_cons_zero, List.set_cons_succ]
      refine wpAnyH_take (i := 10) (oi := _) (v := ?_) rfl (by kernel_rfl) (by kernel_rfl) (by kernel_rfl) (fun _ _ _ h => h) (Or.inl ⟨by rfl, ?_⟩) (by assumption) ?_
      rotate_left
      · (intro w hSw; have y2 := hSw.cellv 2 _ rfl; have y3 := hSw.cellv 3 _ rfl; have y5 := hSw.cellv 5 _ rfl; clear hSw; go_simp; first | done | (with_reducible rfl))
      simp only [Act.put, List.getElem_toArray, List.getElem_cons_succ, List.getElem_cons_zero, List.setIfInBounds_toArray, List.set_cons_zero, List.set_cons_succ]
      refine wpAnyH_ready (rs := [5]) (by kernel_rfl) (by simp) ?_
      refine AllReadyH.cons rfl (fun K hK => ?_) AllReadyH.nil
      go_simp
      go_wp2_with fail
      refine (jbake_i b s a o.A o.B _ _ (HBK.out o.A o.B) (HJ0.out.kept GD.out (by simp)) (HPW.out.2.k.kept GD.out (by simp)) HOK.out.a HOK.out.b).mono ?_
      rintro e w2 ⟨rfl, gg⟩
      refine hK.out _ _ (Has.kept hHeld gg (by simp)) (fun hHeld => ?_)
      clear hK K
      have GD2 := Keep.mk (GD.out.trans gg)
      clear GD gg
      have GD := GD2
      clear GD2
      refine wpAnyH_ready (rs := [11]) (by kernel_rfl) (by simp) ?_
      refine AllReadyH.cons rfl (fun K hK => ?_) AllReadyH.nil
      go_simp
      go_wp2_with fail
      refine (rbake_c kb _ _ ks o.A o.B key x _ (HRV0.out.kept GD.out) (HPW.out.2.r.kept GD.out) (Nat.le_trans HPW.out.2.n GD.out.size) hx1 HX.out.1 (by omega) HX.out.2.1 hA hB).mono ?_
      rintro e w3 ⟨rfl, gg⟩
      refine hK.out _ _ (Has.kept hHeld gg (by simp)) (fun hHeld => ?_)
      clear hK K
      have GD2 := Keep.mk (GD.out.trans gg)
      clear GD gg
      have GD := GD2
      clear GD2
      generalize deriveB key cookieB _ = r
      refine wpAnyH_ready (rs := [12]) (by kernel_rfl) (by simp) ?_
      refine AllReadyH.cons rfl (fun K hK => ?_) AllReadyH.nil
      go_simp
      go_wp2_with fail
      refine hK.out _ _ hHeld (fun hHeld => ?_)
      clear hK K
      refine wpAnyH_ready (rs := [13]) (by kernel_rfl) (by simp) ?_
      refine AllReadyH.cons rfl (fun K hK => ?_) AllReadyH.nil
      go_simp
      go_wp2_with fail
      refine hK.out _ _ hHeld (fun hHeld => ?_)
      clear hK K
      refine wpAnyH_done (by kernel_rfl) ?_ _
      clear hHeld
      go_wp2_with fail
      go_ret
      exact ⟨rfl, g, cap, ks, HPW.out.1.grow GD.out, by omega, .inl rfl, FX.of GD.out⟩
    · by_cases k3 : o.kind = 3
      · rw [k3] at c0
        have HRV0 := Keep.mk (HPW.out.1.ro.rv (by omega))
        subst hw0
        obtain ⟨d40, U1, U2⟩ := underOp
        have HU := Keep.mk (And.intro U1 U2)
        clear U1 U2
        have HI : Keep ((Tryd.prog.info? 40).map (·.size) = some o.vals.length) := ⟨sizeOp⟩
        go_wp2_with (show wpList _ _ _ ({ dst := _, op := Op.load 40 _, type := _, pos := _, after := _, guard := _ } :: _) _ _; refine wpList_load_mid rfl 40 _ rfl w.heap.size 0 rfl o.vals d40 HOB.out.1.range HU.out.1 HU.out.2 HI.out ?_)
        refine (asked_c kb g cap ks o x _ (HRV0.out.kept HOB.out.2) (HPW.out.2.r.kept HOB.out.2) (Nat.le_trans HPW.out.2.n HOB.out.2.size) hx1 (by omega) hcap HKS.out.1.sz hA hB HOK.out.t.2).mono ?_
        rintro e w1 ⟨q, rfl, g1⟩
        have HOBX := Keep.mk (And.intro (HOB.out.1.kept g1 (by simp)) (HOB.out.2.trans g1))
        clear g1
        go_wp2_with fail
        have gd := gr_drewN w1 1 none
        refine wp_region_held_drew (S := fun w' => Has w' w.heap.size o.vals 40) (by kernel_rfl) (HOBX.out.1.kept gd (by simp)) (fun hHeld => ?_)
        change w1.grownBy w1.drew none at gd
        generalize w1.drew = w2 at gd hHeld ⊢
        have GD := Keep.mk (HOBX.out.2.trans gd)
        clear gd
        refine wpAnyH_take (i := 0) (oi := _) (v := ?_) rfl (by kernel_rfl) (by kernel_rfl) (by kernel_rfl) (fun _ _ _ h => h) (Or.inl ⟨by rfl, ?_⟩) (by assumption) ?_
        rotate_left
        · (intro w hSw; go_simp; first | done | (with_reducible rfl))
        simp only [Act.put, List.getElem_toArray, List.getElem_cons_zero, List.setIfInBounds_toArray, List.set_cons_zero, List.set_cons_succ]
        refine wpAnyH_take (i := 1) (oi := _) (v := ?_) rfl (by kernel_rfl) (by kernel_rfl) (by kernel_rfl) (fun _ _ _ h => h) (Or.inl ⟨by rfl, ?_⟩) (by assumption) ?_
        rotate_left
        · (intro w hSw; go_simp; first | done | (with_reducible rfl))
        simp only [Act.put, List.getElem_toArray, List.getElem_cons_succ, List.getElem_cons_zero, List.setIfInBounds_toArray, List.set_cons_zero, List.set_cons_succ]
        refine wpAnyH_take (i := 2) (oi := _) (v := ?_) rfl (by kernel_rfl) (by kernel_rfl) (by kernel_rfl) (fun _ _ _ h => h) (Or.inl ⟨by rfl, ?_⟩) (by assumption) ?_
        rotate_left
        · (intro w hSw; have y2 := hSw.cellv 2 _ rfl; have y3 := hSw.cellv 3 _ rfl; have y5 := hSw.cellv 5 _ rfl; clear hSw; go_simp; first | done | (with_reducible rfl))
        simp only [Act.put, List.getElem_toArray, List.getElem_cons_succ, List.getElem_cons_zero, List.setIfInBounds_toArray, List.set_cons_zero, List.set_cons_succ]
        refine wpAnyH_take (i := 3) (oi := _) (v := ?_) rfl (by kernel_rfl) (by kernel_rfl) (by kernel_rfl) (fun _ _ _ h => h) (Or.inl ⟨by rfl, ?_⟩) (by assumption) ?_
        rotate_left
        · (intro w hSw; go_simp; first | done | (with_reducible rfl))
        simp only [Act.put, List.getElem_toArray, List.getElem_cons_succ, List.getElem_cons_zero, List.setIfInBounds_toArray, List.set_cons_zero, List.set_cons_succ]
        refine wpAnyH_take (i := 4) (oi := _) (v := ?_) rfl (by kernel_rfl) (by kernel_rfl) (by kernel_rfl) (fun _ _ _ h => h) (Or.inl ⟨by rfl, ?_⟩) (by assumption) ?_
        rotate_left
        · (intro w hSw; have y2 := hSw.cellv 2 _ rfl; have y3 := hSw.cellv 3 _ rfl; have y5 := hSw.cellv 5 _ rfl; clear hSw; go_simp; first | done | (with_reducible rfl))
        simp only [Act.put, List.getElem_toArray, List.getElem_cons_succ, List.getElem_cons_zero, List.setIfInBounds_toArray, List.set_cons_zero, List.set_cons_succ]
        refine wpAnyH_take (i := 5) (oi := _) (v := ?_) rfl (by kernel_rfl) (by kernel_rfl) (by kernel_rfl) (fun _ _ _ h => h) (Or.inl ⟨by rfl, ?_⟩) (by assumption) ?_
        rotate_left
        · (intro w hSw; go_simp; first | done | (with_reducible rfl))
        simp only [Act.put, List.getElem_toArray, List.getElem_cons_succ, List.getElem_cons_zero, List.setIfInBounds_toArray, List.set_cons_zero, List.set_cons_succ]
        refine wpAnyH_take (i := 6) (oi := _) (v := ?_) rfl (by kernel_rfl) (by kernel_rfl) (by kernel_rfl) (fun _ _ _ h => h) (Or.inl ⟨by rfl, ?_⟩) (by assumption) ?_
        rotate_left
        · (intro w hSw; have y2 := hSw.cellv 2 _ rfl; have y3 := hSw.cellv 3 _ rfl; have y5 := hSw.cellv 5 _ rfl; clear hSw; go_simp; first | done | (with_reducible rfl))
        simp only [Act.put, List.getElem_toArray, List.getElem_cons_succ, List.getElem_cons_zero, List.setIfInBounds_toArray, List.set_cons_zero, List.set_cons_succ]
        refine wpAnyH_take (i := 7) (oi := _) (v := ?_) rfl (by kernel_rfl) (by kernel_rfl) (by kernel_rfl) (fun _ _ _ h => h) (Or.inl ⟨by rfl, ?_⟩) (by assumption) ?_
        rotate_left
        · (intro w hSw; go_simp; first | done | (with_reducible rfl))
        simp only [Act.put, List.getElem_toArray, List.getElem_cons_succ, List.getElem_cons_zero, List.setIfInBounds_toArray, List.set_cons_zero, List.set_cons_succ]
        refine wpAnyH_take (i := 9) (oi := _) (v := ?_) rfl (by kernel_rfl) (by kernel_rfl) (by kernel_rfl) (fun _ _ _ h => h) (Or.inl ⟨by rfl, ?_⟩) (by assumption) ?_
        rotate_left
        · (intro w hSw; go_simp; first | done | (with_reducible rfl))
        simp only [Act.put, List.getElem_toArray, List.getElem_cons_succ, List.getElem_cons_zero, List.setIfInBounds_toArray, List.set_cons_zero, List.set_cons_succ]
        refine wpAnyH_take (i := 10) (oi := _) (v := ?_) rfl (by kernel_rfl) (by kernel_rfl) (by kernel_rfl) (fun _ _ _ h => h) (Or.inl ⟨by rfl, ?_⟩) (by assumption) ?_
        rotate_left
        · (intro w hSw; go_simp; first | done | (with_reducible rfl))
        simp only [Act.put, List.getElem_toArray, List.getElem_cons_succ, List.getElem_cons_zero, List.setIfInBounds_toArray, List.set_cons_zero, List.set_cons_succ]
        refine wpAnyH_take (i := 11) (oi := _) (v := ?_) rfl (by kernel_rfl) (by kernel_rfl) (by kernel_rfl) (fun _ _ _ h => h) (Or.inl ⟨by rfl, ?_⟩) (by assumption) ?_
        rotate_left
        · (intro w hSw; have y2 := hSw.cellv 2 _ rfl; have y3 := hSw.cellv 3 _ rfl; have y5 := hSw.cellv 5 _ rfl; clear hSw; go_simp; first | done | (with_reducible rfl))
        simp only [Act.put, List.getElem_toArray, List.getElem_cons_succ, List.getElem_cons_zero, List.setIfInBounds_toArray, List.set_cons_zero, List.set_cons_succ]
        refine wpAnyH_take (i := 12) (oi := _) (v := ?_) rfl (by kernel_rfl) (by kernel_rfl) (by kernel_rfl) (fun _ _ _ h => h) (Or.inl ⟨by rfl, ?_⟩) (by assumption) ?_
        rotate_left
        · (intro w hSw; go_simp; first | done | (with_reducible rfl))
        simp only [Act.put, List.getElem_toArray, List.getElem_cons_succ, List.getElem_cons_zero, List.setIfInBounds_toArray, List.set_cons_zero, List.set_cons_succ]
        refine wpAnyH_take (i := 13) (oi := _) (v := ?_) rfl (by kernel_rfl) (by kernel_rfl) (by kernel_rfl) (fun _ _ _ h => h) (Or.inl ⟨by rfl, ?_⟩) (by assumption) ?_
        rotate_left
        · (intro w hSw; have y2 := hSw.cellv 2 _ rfl; have y3 := hSw.cellv 3 _ rfl; have y5 := hSw.cellv 5 _ rfl; clear hSw; go_simp; first | done | (with_reducible rfl))
        simp only [Act.put, List.getElem_toArray, List.getElem_cons_succ, List.getElem_cons_zero, List.setIfInBounds_toArray, List.set_cons_zero, List.set_cons_succ]
        refine wpAnyH_take (i := 14) (oi := _) (v := ?_) rfl (by kernel_rfl) (by kernel_rfl) (by kernel_rfl) (fun _ _ _ h => h) (Or.inl ⟨by rfl, ?_⟩) (by assumption) ?_
        rotate_left
        · (intro w hSw; go_simp; first | done | (with_reducible rfl))
        simp only [Act.put, List.getElem_toArray, List.getElem_cons_succ, List.getElem_cons_zero, List.setIfInBounds_toArray, List.set_cons_zero, List.set_cons_succ]
        refine wpAnyH_take (i := 15) (oi := _) (v := ?_) rfl (by kernel_rfl) (by kernel_rfl) (by kernel_rfl) (fun _ _ _ h => h) (Or.inl ⟨by rfl, ?_⟩) (by assumption) ?_
        rotate_left
        · (intro w hSw; have y2 := hSw.cellv 2 _ rfl; have y3 := hSw.cellv 3 _ rfl; have y5 := hSw.cellv 5 _ rfl; clear hSw; go_simp; first | done | (with_reducible rfl))
        simp only [Act.put, List.getElem_toArray, List.getElem_cons_succ, List.getElem_cons_zero, List.setIfInBounds_toArray, List.set_cons_zero, List.set_cons_succ]
        refine wpAnyH_take (i := 16) (oi := _) (v := ?_) rfl (by kernel_rfl) (by kernel_rfl) (by kernel_rfl) (fun _ _ _ h => h) (Or.inl ⟨by rfl, ?_⟩) (by assumption) ?_
        rotate_left
        · (intro w hSw; go_simp; first | done | (with_reducible rfl))
        simp only [Act.put, List.getElem_toArray, List.getElem_cons_succ, List.getElem_cons_zero, List.setIfInBounds_toArray, List.set_cons_zero, List.set_cons_succ]
        refine wpAnyH_ready (rs := [8]) (by kernel_rfl) (by simp) ?_
        refine AllReadyH.cons rfl (fun K hK => ?_) AllReadyH.nil
        go_simp
        go_wp2_with fail
        refine (check_i b o.ep _ s a o.A o.B q _ _ rfl (HKS.out.1.chk (by omega) o.A o.B q o.ep) (HJ0.out.kept GD.out (by simp)) (HPW.out.2.k.kept GD.out (by simp)) HOK.out.a HOK.out.b).mono ?_
        rintro e w3 ⟨rfl, gg⟩
        refine hK.out _ _ (Has.kept hHeld gg (by simp)) (fun hHeld => ?_)
        clear hK K
        have GD2 := Keep.mk (GD.out.trans gg)
        clear GD gg
        have GD := GD2
        clear GD2
        refine wpAnyH_ready (rs := [17]) (by kernel_rfl) (by simp) ?_
        refine AllReadyH.cons rfl (fun K hK => ?_) AllReadyH.nil
        go_simp
        go_wp2_with fail
        refine (rcheck_c kb _ _ ks o.A o.B q o.ep _ (HRV0.out.kept GD.out) (HPW.out.2.r.kept GD.out) (Nat.le_trans HPW.out.2.n GD.out.size) (by omega) HOK.out.e HKS.out.1.sz hA hB).mono ?_
        rintro e w4 ⟨rfl, gg⟩
        refine hK.out _ _ (Has.kept hHeld gg (by simp)) (fun hHeld => ?_)
        clear hK K
        have GD2 := Keep.mk (GD.out.trans gg)
        clear GD gg
        have GD := GD2
        clear GD2
        generalize rchk ks o.A o.B o.ep q = r
        refine wpAnyH_ready (rs := [18]) (by kernel_rfl) (by simp) ?_
        refine AllReadyH.cons rfl (fun K hK => ?_) AllReadyH.nil
        go_simp
        go_wp2_with fail
        refine hK.out _ _ hHeld (fun hHeld => ?_)
        clear hK K
        refine wpAnyH_ready (rs := [19]) (by kernel_rfl) (by simp) ?_
        refine AllReadyH.cons rfl (fun K hK => ?_) AllReadyH.nil
        go_simp
        go_wp2_with fail
        refine hK.out _ _ hHeld (fun hHeld => ?_)
        clear hK K
        refine wpAnyH_done (by kernel_rfl) ?_ _
        clear hHeld
        go_wp2_with fail
        go_ret
        exact ⟨rfl, g, cap, ks, HPW.out.1.grow GD.out, by omega, .inl rfl, FX.of GD.out⟩
      · have q1 : (o.kind == 1) = false := by rw [beq_eq_false_iff_ne]; exact k1
        have q2 : (o.kind == 2) = false := by rw [beq_eq_false_iff_ne]; exact k2
        have q3 : (o.kind == 3) = false := by rw [beq_eq_false_iff_ne]; exact k3
        have HR0 := Keep.mk ((HPW.out.1.ro.rv (by omega)).kept HOB.out.2)
        subst hw0
        go_wp2_with fail
        refine (jepoch_i b _ _ _ _ HNN.out.1 HJ.out).mono ?_
        rintro e w1 ⟨rfl, g1⟩
        have G1 := Keep.mk g1
        clear g1
        go_wp2_with fail
        refine (repoch_c kb _ _ ks _ (HR0.out.kept G1.out) (by omega)).mono ?_
        rintro e w2 ⟨rfl, g2⟩
        have G2 := Keep.mk (HOB.out.2.trans (G1.out.trans g2))
        clear g2 G1
        rw [hx1]
        go_wp2_with fail
        go_ret
        exact ⟨rfl, g, cap, ks, HPW.out.1.grow G2.out, by omega, .inl rfl, FX.of G2.out⟩
end Go.Proofs.YtbmnlhmelbhjeaaDoor
