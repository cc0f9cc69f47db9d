import Derived.Test.YtplcicbpkbamnabGreatDoorX44
import Derived.Test.YtplcicbpkbamnabGreatDoorX32
import Derived.Test.YtplcicbpkbamnabGreatDoorX33
import Derived.Test.YtplcicbpkbamnabGreatDoorX11
/- LobbyNews: the reference's New -/
namespace Go.Proofs.YtplcicbpkbamnabGreatDoor.Lo
open Go Go.RowKit Go.Maps

set_option maxRecDepth 100000 in
set_option maxHeartbeats 4000000 in
theorem rwith_c (x lo hi : Int) (w : World) : Calls Tryz.prog 24 #[iv x, iv lo, iv hi] w fun e w' => e = .returned (.bool (decide (lo ≤ x) && decide (x ≤ hi))) ∧ w' = w := by
  by_cases h1 : lo ≤ x
  · have e1 : decide (lo ≤ x) = true := decide_eq_true h1
    rw [e1, Bool.true_and]
    go_enter Tryz.func24, Tryz.ntmps24
    go_wp2_with fail
    go_ret
    exact ⟨rfl, rfl⟩
  · have e1 : decide (lo ≤ x) = false := decide_eq_false h1
    rw [e1, Bool.false_and]
    go_enter Tryz.func24, Tryz.ntmps24
    go_wp2_with fail
    go_ret
    exact ⟨rfl, rfl⟩
/-- what the reference's New answers -/
def RnR (w : World) (c : Cf) (P : List Pr) (o : Option Lb) (e : Ending) (w' : World) : Prop := w.grownBy w' none ∧ ((o = none ∧ e = .returned (.tuple #[np, iv 230])) ∨ ((∃ X, o = some X) ∧ ∃ b, e = .returned (.tuple #[pt b, iv 0]) ∧ Sep w w' [rlobA b ⟨c, P, []⟩]))
set_option maxRecDepth 100000 in
theorem built70 (v0 v1 v2 v3 v4 v5 v6 v7 v8 v9 v10 v11 v12 : Value) : Tryz.prog.built 78 [(0, .agg #[v0, v1, v2, v3, v4, v5, v6, v7, v8, v9, v10, v11, v12])] = some #[v0, v1, v2, v3, v4, v5, v6, v7, v8, v9, v10, v11, v12, .slice none 0 0] := by kernel_rfl
set_option maxRecDepth 100000 in
theorem under24q : ∃ d, Tryz.prog.underlying 24 = some d ∧ d.isRow = true := ⟨_, Tryz.underlying24, rfl⟩
set_option maxRecDepth 100000 in
theorem info24q : (Tryz.prog.info? 24).map (·.size) = some 13 := by kernel_rfl
set_option maxRecDepth 100000 in
set_option maxHeartbeats 32000000 in
theorem rnew_c (w : World) (c : Cf) (v : Value) (P : List Pr) (hv : InR w v P) (hz : v = .slice none 0 0 ∨ ∃ a n c, v = .slice (some a) n c) (hsm : ∀ x ∈ P, x.1.size ≤ 1048576) :
    Calls Tryz.prog 6 #[.agg (cfv c v)] w (RnR w c P (newL c P)) := by
  obtain ⟨du, hdu, hdr⟩ := under24q
  obtain ⟨a, cap, hve, _⟩ := hv.o
  obtain ⟨n, hnn⟩ : ∃ n, P.length = n := ⟨_, rfl⟩
  rw [hnn] at hve
  subst hve
  have S1 := (Sep.nil w).newBox (cfv c (.slice a n cap)) 24
  obtain ⟨W1, hW1⟩ : ∃ W1, w.alloc (.cells (cfv c (.slice a n cap)) 24) = W1 := ⟨_, rfl⟩
  obtain ⟨cb, hcb⟩ : ∃ cb, w.heap.size = cb := ⟨_, rfl⟩
  rw [hW1, hcb] at S1
  have HIN : Keep (∀ W l, Sep w W l → InR W (.slice a n cap) P) := ⟨fun W l h => hv.kept h.g⟩
  have HP := Keep.mk (And.intro hnn hsm)
  have HZ := Keep.mk hz
  have HNO : Keep (∀ e w', ¬ ((1 ≤ c.ses ∧ c.ses ≤ 32) ∧ (0 ≤ c.rate ∧ c.rate ≤ 1000) ∧ (1 ≤ c.burst ∧ c.burst ≤ 1000) ∧ (1 ≤ c.idle ∧ c.idle ≤ 100000) ∧ n ≤ 64 ∧ cpy [] P ≠ none) → e = .returned (.tuple #[np, iv 230]) → w.grownBy w' none → RnR w c P (newL c P) e w') := ⟨fun e w' h he hg => by
    refine ⟨hg, .inl ⟨?_, he⟩⟩
    unfold newL
    split
    · rename_i q
      unfold cpyL
      split
      · rfl
      · cases hc : cpy [] P with
        | none => rfl
        | some A => exact absurd ⟨q.2.1, ⟨q.1.1, q.1.2.1⟩, ⟨q.1.2.2.1, q.1.2.2.2⟩, q.2.2, by omega, by rw [hc]; simp⟩ h
    · rfl⟩
  have HYES : Keep (∀ e w' b, (1 ≤ c.ses ∧ c.ses ≤ 32) → (0 ≤ c.rate ∧ c.rate ≤ 1000) → (1 ≤ c.burst ∧ c.burst ≤ 1000) → (1 ≤ c.idle ∧ c.idle ≤ 100000) → n ≤ 64 → (∃ A, cpy [] P = some A) → e = .returned (.tuple #[pt b, iv 0]) → Sep w w' [rlobA b ⟨c, P, []⟩] → RnR w c P (newL c P) e w') := ⟨fun e w' b h1 h2 h3 h4 h5 ⟨A, hA⟩ he hg => by
    refine ⟨hg.g, .inr ⟨?_, b, he, hg⟩⟩
    unfold newL cpyL
    rw [if_pos ⟨⟨h2.1, h2.2, h3.1, h3.2⟩, h1, h4⟩, if_neg (by omega), hA]
    exact ⟨_, rfl⟩⟩
  obtain ⟨b1, hb1⟩ : ∃ b, (decide (1 ≤ c.ses) && decide (c.ses ≤ 32)) = b := ⟨_, rfl⟩
  obtain ⟨b2, hb2⟩ : ∃ b, (decide (0 ≤ c.rate) && decide (c.rate ≤ 1000)) = b := ⟨_, rfl⟩
  obtain ⟨b3, hb3⟩ : ∃ b, (decide (1 ≤ c.burst) && decide (c.burst ≤ 1000)) = b := ⟨_, rfl⟩
  obtain ⟨b4, hb4⟩ : ∃ b, (decide (1 ≤ c.idle) && decide (c.idle ≤ 100000)) = b := ⟨_, rfl⟩
  have hw1 := rwith_c c.ses 1 32 W1
  have hw2 := rwith_c c.rate 0 1000 W1
  have hw3 := rwith_c c.burst 1 1000 W1
  have hw4 := rwith_c c.idle 1 100000 W1
  rw [hb1] at hw1
  rw [hb2] at hw2
  rw [hb3] at hw3
  rw [hb4] at hw4
  have HB := Keep.mk (And.intro hb1 (And.intro hb2 (And.intro hb3 hb4)))
  have c0 : W1.cell? ⟨cb, 0, none⟩ = some (iv c.ses) := (S1.boxGet k0m).cellv 0 _ rfl
  have c2 : W1.cell? ⟨cb, 2, none⟩ = some (iv c.rate) := (S1.boxGet k0m).cellv 2 _ rfl
  have c3 : W1.cell? ⟨cb, 3, none⟩ = some (iv c.burst) := (S1.boxGet k0m).cellv 3 _ rfl
  have c6 : W1.cell? ⟨cb, 6, none⟩ = some (iv c.idle) := (S1.boxGet k0m).cellv 6 _ rfl
  have c12 : W1.cell? ⟨cb, 12, none⟩ = some (.slice a n cap) := (S1.boxGet k0m).cellv 12 _ rfl
  obtain ⟨cl, hcl⟩ : ∃ cl, (cfv c (.slice a n cap)).toList = cl := ⟨_, rfl⟩
  have HCL : Keep (cl.length = 13 ∧ cl[0]? = some (iv c.ses) ∧ cl[2]? = some (iv c.rate) ∧ cl[3]? = some (iv c.burst) ∧ cl[6]? = some (iv c.idle) ∧ cl[12]? = some (.slice a n cap)) := ⟨by rw [← hcl]; exact ⟨rfl, rfl, rfl, rfl, rfl, rfl⟩⟩
  have HCQ : Keep (∃ v0 v1 v2 v3 v4 v5 v6 v7 v8 v9 v10 v11, cl = [v0, v1, v2, v3, v4, v5, v6, v7, v8, v9, v10, v11, .slice a n cap] ∧ ∀ v, (cfv c v).toList = [v0, v1, v2, v3, v4, v5, v6, v7, v8, v9, v10, v11, v]) := ⟨_, _, _, _, _, _, _, _, _, _, _, _, hcl.symm, fun v => rfl⟩
  rw [hcl] at S1
  have HS1 := Keep.mk S1
  have HG1 := Keep.mk S1.g
  generalize hcv : cfv c (.slice a n cap) = cv at hW1 ⊢
  clear hcv S1 hv hz hsm hnn hcl hb1 hb2 hb3 hb4
  go_enter Tryz.func6, Tryz.ntmps6
  go_wp2_with fail
  refine hw1.mono ?_
  rintro e w2 ⟨rfl, hw⟩
  subst hw
  clear hw1
  cases b1 with
  | false =>
    go_wp2_with fail
    go_ret2
    exact HNO.out _ _ (fun q => by have := HB.out.1; rw [decide_eq_true q.1.1, decide_eq_true q.1.2] at this; cases this) rfl HG1.out
  | true =>
    go_wp2_with fail
    refine hw2.mono ?_
    rintro e w3 ⟨rfl, hw⟩
    subst hw
    clear hw2
    cases b2 with
    | false =>
      go_wp2_with fail
      go_ret2
      exact HNO.out _ _ (fun q => by have := HB.out.2.1; rw [decide_eq_true q.2.1.1, decide_eq_true q.2.1.2] at this; cases this) rfl HG1.out
    | true =>
      go_wp2_with fail
      refine hw3.mono ?_
      rintro e w4 ⟨rfl, hw⟩
      subst hw
      clear hw3
      cases b3 with
      | false =>
        go_wp2_with fail
        go_ret2
        exact HNO.out _ _ (fun q => by have := HB.out.2.2.1; rw [decide_eq_true q.2.2.1.1, decide_eq_true q.2.2.1.2] at this; cases this) rfl HG1.out
      | true =>
        go_wp2_with fail
        refine hw4.mono ?_
        rintro e w5 ⟨rfl, hw⟩
        subst hw
        clear hw4
        cases b4 with
        | false =>
          go_wp2_with fail
          go_ret2
          exact HNO.out _ _ (fun q => by have := HB.out.2.2.2; rw [decide_eq_true q.2.2.2.1.1, decide_eq_true q.2.2.2.1.2] at this; cases this) rfl HG1.out
        | true =>
          by_cases hP : 64 < n
          · have hP1 : (64 : Int) < (n : Nat) := by omega
            have hP2 : decide (64 < n) = true := decide_eq_true hP
            go_wp2_with fail
            go_ret2
            exact HNO.out _ _ (fun q => by have := q.2.2.2.2.1; omega) rfl HG1.out
          · have hP1 : ¬ (64 : Int) < (n : Nat) := by omega
            have hP2 : decide (64 < n) = false := decide_eq_false hP
            have HB2 : Keep ((1 ≤ c.ses ∧ c.ses ≤ 32) ∧ (0 ≤ c.rate ∧ c.rate ≤ 1000) ∧ (1 ≤ c.burst ∧ c.burst ≤ 1000) ∧ (1 ≤ c.idle ∧ c.idle ≤ 100000) ∧ n ≤ 64) := ⟨by
              obtain ⟨q1, q2, q3, q4⟩ := HB.out
              simp only [Bool.and_eq_true, decide_eq_true_eq] at q1 q2 q3 q4
              exact ⟨q1, q2, q3, q4, by omega⟩⟩
            go_wp2_with fail
            clear HB c0 c2 c3 c6 c12 hW1 hcb HG1
            go_loopw [4] (fun u wr => ∃ i : Nat, i ≤ n ∧ u = iv i ∧ Keep (Sep w wr [boxA cb cl 24]) ∧ Keep (Gd P i)) (fun u _ => (n - intOf u).toNat)
            case atStart => exact ⟨0, by omega, rfl, HS1, ⟨Gd.zero P⟩⟩
            case round =>
              clear HS1 hP hP1 hP2
              obtain ⟨i, hi, rfl, hS, hGd⟩ := hrel
              rename World => wo
              have c12 : wo.cell? ⟨cb, 12, none⟩ = some (.slice a n cap) := (hS.out.boxGet k0m).cellv 12 _ HCL.out.2.2.2.2.2
              by_cases hlt : i < n
              · obtain ⟨p, hp⟩ : ∃ p, P[i]? = some p := ⟨_, List.getElem?_eq_getElem (by rw [HP.out.1]; exact hlt)⟩
                have hpm := List.mem_of_getElem? hp
                obtain ⟨g, og, rfl⟩ : ∃ g og, a = some ⟨g, og, none⟩ := by
                  obtain ⟨a', c', e, q⟩ := (HIN.out _ _ hS.out).o
                  obtain ⟨g, og, e1, _⟩ := q (by rw [HP.out.1]; omega)
                  injection e with e2 _ _
                  exact ⟨g, og, e2.trans e1⟩
                have HAT : Keep (∀ W l, Sep w W l → ∀ j z, P[j]? = some z → W.cell? ⟨g, og + j * 2, none⟩ = some (.string z.1) ∧ W.cell? ⟨g, og + j * 2 + 1, none⟩ = some (.string z.2)) := ⟨fun W l h j z hzj => by
                  obtain ⟨a', c', e, q⟩ := (HIN.out _ _ h).o
                  obtain ⟨g', og', e1, q⟩ := q (by have := (List.getElem?_eq_some_iff.1 hzj).1; omega)
                  injection e with e2 _ _
                  rw [e1] at e2
                  injection e2 with e2
                  injection e2 with e3 e4 _
                  subst e3 e4
                  exact q j z hzj⟩
                obtain ⟨p0, p1⟩ := HAT.out _ _ hS.out i p hp
                have hi0 : (0 : Int) ≤ (i : Int) := by omega
                have hi1 : (i : Int) < (n : Nat) := by omega
                have hti : ((i : Nat) : Int).toNat = i := by omega
                have hwi : IntKind.i64.wrap ((i : Int) + 1) = ((i + 1 : Nat) : Int) := by have := HB2.out.2.2.2.2; rw [wi _ (by omega) (by omega)]; omega
                have HI := Keep.mk hlt
                have HPP : Keep (P[i]? = some p) := ⟨hp⟩
                have S3 := hS.out.newBox #[.string p.1, .string p.2] 73
                obtain ⟨W3, hW3⟩ : ∃ W3, wo.alloc (.cells #[.string p.1, .string p.2] 73) = W3 := ⟨_, rfl⟩
                obtain ⟨ab, hab⟩ : ∃ ab, wo.heap.size = ab := ⟨_, rfl⟩
                rw [hW3, hab] at S3
                have y0 : W3.cell? ⟨ab, 0, none⟩ = some (.string p.1) := (S3.boxGet k0m).cellv 0 _ rfl
                have hCk := Na.rcheck_c p.1 W3 (HP.out.2 p hpm)
                have HS3 : Keep (Sep w W3 (boxA ab [.string p.1, .string p.2] 73 :: boxA cb cl 24 :: [])) := ⟨S3⟩
                have HSZ : Keep (p.1.size ≤ 1048576) := ⟨HP.out.2 p hpm⟩
                clear hp hpm S3 hS hlt hi
                go_wp2_with fail
                refine hCk.mono ?_
                rintro e w4 ⟨rfl, g4⟩
                have S4 := HS3.out.grown g4
                have y1 : w4.cell? ⟨ab, 1, none⟩ = some (.string p.2) := (S4.boxGet k0m).cellv 1 _ rfl
                have HS4 := Keep.mk S4
                clear hCk g4 S4 HS3 y0 p0 p1 c12 hW3 hab
                by_cases hok : Na.chkOK p.1 = true
                · have e60 : Na.chk p.1 = 0 := if_pos hok
                  rw [e60]
                  by_cases h32 : p.2.size = 32
                  · have l32 : (p.2.size : Int) = 32 := by omega
                    have l33 : (p.2.size == 32) = true := by simpa using h32
                    have l34 : decide (p.2.size = 32) = true := decide_eq_true h32
                    have HO := Keep.mk (And.intro hok h32)
                    clear hok h32 e60
                    go_wp2_with fail
                    clear l32 l33 l34 y1
                    go_loopw [7] (fun u wr => ∃ k : Nat, k ≤ i ∧ u = iv k ∧ Keep (Sep w wr (boxA ab [.string p.1, .string p.2] 73 :: boxA cb cl 24 :: [])) ∧ Keep (∀ j z, j < k → P[j]? = some z → decide (Na.foldL (Na.sl p.1) = Na.foldL (Na.sl z.1)) = false)) (fun u _ => (i - intOf u).toNat)
                    case atStart => exact ⟨0, by omega, rfl, HS4, ⟨fun j z h => by omega⟩⟩
                    case round =>
                      clear HS4
                      obtain ⟨k, hki, rfl, hS, hN⟩ := hrel
                      by_cases hk : k < i
                      · obtain ⟨z, hz⟩ : ∃ z, P[k]? = some z := ⟨_, List.getElem?_eq_getElem (by rw [HP.out.1]; have := HI.out; omega)⟩
                        have HZC : Keep (∀ W, Sep w W (boxA ab [.string p.1, .string p.2] 73 :: boxA cb cl 24 :: []) → W.cell? ⟨g, og + k * 2, none⟩ = some (.string z.1)) := ⟨fun W h => (HAT.out W _ h k z hz).1⟩
                        obtain ⟨sb, hsb⟩ : ∃ sb, decide (Na.foldL (Na.sl p.1) = Na.foldL (Na.sl z.1)) = sb := ⟨_, rfl⟩
                        have HSM : Keep (∀ W', Sep w W' (boxA ab [.string p.1, .string p.2] 73 :: boxA cb cl 24 :: []) → Calls Tryz.prog 26 #[.string p.1, .string z.1] W' fun e W'' => e = .returned (.bool sb) ∧ Sep w W'' (boxA ab [.string p.1, .string p.2] 73 :: boxA cb cl 24 :: [])) := ⟨fun W' q => by
                          have c := Na.rsame_c p.1 z.1 W' HSZ.out (HP.out.2 z (List.mem_of_getElem? hz))
                          rw [hsb] at c
                          exact c.mono fun e W'' ⟨he, hg⟩ => ⟨he, q.grown hg⟩⟩
                        have HK : Keep (k < n) := ⟨by have := HI.out; omega⟩
                        have HSB := Keep.mk (And.intro hsb hz)
                        have hk1 : (k : Int) < (i : Nat) := by omega
                        have hwk : IntKind.i64.wrap ((k : Int) + 1) = ((k + 1 : Nat) : Int) := by have := HB2.out.2.2.2.2; have := HI.out; rw [wi _ (by omega) (by omega)]; omega
                        have HL4 : Keep (Sep w wr.drew (boxA ab [.string p.1, .string p.2] 73 :: boxA cb cl 24 :: [])) := ⟨hS.out.grown (gr_drew wr none)⟩
                        clear hS hsb hz
                        go_wp2_with fail
                        refine wp_region_held_drew (S := fun w' => Sep w w' (boxA ab [.string p.1, .string p.2] 73 :: boxA cb cl 24 :: [])) (by kernel_rfl) HL4.out (fun hHeld => ?_)
                        clear HL4
                        generalize wr.drew = wB0 at hHeld ⊢
                        refine wpAnyH_take (i := 0) (oi := { dst := some 66, op := Op.fieldAddr 73 (Operand.tmp 5) 0, type := 0, pos := "ref.go:54", after := #[], guard := none }) (v := ?_) rfl (by kernel_rfl) (by kernel_rfl) (by kernel_rfl) (fun _ _ _ h => h) (Or.inl ⟨by rfl, ?_⟩) (by assumption) ?_
                        rotate_left
                        · (intro w hSw; go_simp; first | done | (with_reducible rfl))
                        simp only [Act.put, List.setIfInBounds_toArray, List.set_cons_zero, List.set_cons_succ]
                        refine wpAnyH_take (i := 1) (oi := { dst := some 67, op := Op.load 9 (Operand.tmp 66), type := 9, pos := "ref.go:54", after := #[{ on := 0, ground := Ground.data }], guard := none }) (v := ?_) rfl (by kernel_rfl) (by kernel_rfl) (by kernel_rfl) (fun _ _ _ h => h) (Or.inl ⟨by rfl, ?_⟩) (by assumption) ?_
                        rotate_left
                        · (intro w hSw; have y0 : w.cell? ⟨ab, 0, none⟩ = some (.string p.1) := (hSw.boxGet k0m).cellv 0 _ rfl; go_simp; first | done | (with_reducible rfl))
                        simp only [Act.put, List.setIfInBounds_toArray, List.set_cons_zero, List.set_cons_succ]
                        refine wpAnyH_take (i := 2) (oi := { dst := some 68, op := Op.fieldAddr 24 (Operand.tmp 1) 12, type := 0, pos := "ref.go:54", after := #[], guard := none }) (v := ?_) rfl (by kernel_rfl) (by kernel_rfl) (by kernel_rfl) (fun _ _ _ h => h) (Or.inl ⟨by rfl, ?_⟩) (by assumption) ?_
                        rotate_left
                        · (intro w hSw; go_simp; first | done | (with_reducible rfl))
                        simp only [Act.put, List.setIfInBounds_toArray, List.set_cons_zero, List.set_cons_succ]
                        refine wpAnyH_take (i := 3) (oi := { dst := some 69, op := Op.load 22 (Operand.tmp 68), type := 22, pos := "ref.go:54", after := #[{ on := 2, ground := Ground.data }], guard := none }) (v := ?_) rfl (by kernel_rfl) (by kernel_rfl) (by kernel_rfl) (fun _ _ _ h => h) (Or.inl ⟨by rfl, ?_⟩) (by assumption) ?_
                        rotate_left
                        · (intro w hSw; have c12 : w.cell? ⟨cb, 12, none⟩ = some (.slice (some ⟨g, og, none⟩) n cap) := (hSw.boxGet k1m).cellv 12 _ HCL.out.2.2.2.2.2; go_simp; first | done | (with_reducible rfl))
                        simp only [Act.put, List.setIfInBounds_toArray, List.set_cons_zero, List.set_cons_succ]
                        refine wpAnyH_take (i := 4) (oi := { dst := some 70, op := Op.move (Operand.tmp 7), type := 3, pos := "ref.go:54", after := #[], guard := none }) (v := ?_) rfl (by kernel_rfl) (by kernel_rfl) (by kernel_rfl) (fun _ _ _ h => h) (Or.inl ⟨by rfl, ?_⟩) (by assumption) ?_
                        rotate_left
                        · (intro w hSw; go_simp; first | done | (with_reducible rfl))
                        simp only [Act.put, List.setIfInBounds_toArray, List.set_cons_zero, List.set_cons_succ]
                        refine wpAnyH_take (i := 5) (oi := { dst := some 71, op := Op.indexAddr 22 (Operand.tmp 69) (Operand.tmp 70), type := 0, pos := "ref.go:54", after := #[{ on := 3, ground := Ground.data }, { on := 4, ground := Ground.data }], guard := none }) (v := ?_) rfl (by kernel_rfl) (by kernel_rfl) (by kernel_rfl) (fun _ _ _ h => h) (Or.inl ⟨by rfl, ?_⟩) (by assumption) ?_
                        rotate_left
                        · (intro w hSw; have l1 : (0 : Int) ≤ (k : Int) := (by omega); have l2 : (k : Int) < (n : Nat) := (by have := HK.out; omega); have l3 : ((k : Nat) : Int).toNat = k := (by omega); go_simp; first | done | (with_reducible rfl))
                        simp only [Act.put, List.setIfInBounds_toArray, List.set_cons_zero, List.set_cons_succ]
                        refine wpAnyH_take (i := 6) (oi := { dst := some 72, op := Op.fieldAddr 73 (Operand.tmp 71) 0, type := 0, pos := "ref.go:54", after := #[{ on := 5, ground := Ground.data }], guard := none }) (v := ?_) rfl (by kernel_rfl) (by kernel_rfl) (by kernel_rfl) (fun _ _ _ h => h) (Or.inl ⟨by rfl, ?_⟩) (by assumption) ?_
                        rotate_left
                        · (intro w hSw; go_simp; first | done | (with_reducible rfl))
                        simp only [Act.put, List.setIfInBounds_toArray, List.set_cons_zero, List.set_cons_succ]
                        refine wpAnyH_take (i := 7) (oi := { dst := some 73, op := Op.load 9 (Operand.tmp 72), type := 9, pos := "ref.go:54", after := #[{ on := 6, ground := Ground.data }], guard := none }) (v := ?_) rfl (by kernel_rfl) (by kernel_rfl) (by kernel_rfl) (fun _ _ _ h => h) (Or.inl ⟨by rfl, ?_⟩) (by assumption) ?_
                        rotate_left
                        · (intro w hSw; have q0 := HZC.out _ hSw; go_simp; first | done | (with_reducible rfl))
                        simp only [Act.put, List.setIfInBounds_toArray, List.set_cons_zero, List.set_cons_succ]
                        refine wpAnyH_ready (rs := [8]) (by kernel_rfl) (by simp) ?_
                        refine AllReadyH.cons (o := { dst := some 74, op := Op.call { callee := Callee.value (Operand.func 26), args := #[Operand.tmp 67, Operand.tmp 73], argTypes := #[9, 9] }, type := 4, pos := "ref.go:54", after := #[{ on := 1, ground := Ground.data }, { on := 7, ground := Ground.data }], guard := none }) rfl (fun K hK => ?_) AllReadyH.nil
                        go_simp
                        refine (HSM.out _ hHeld).mono ?_
                        rintro e wA ⟨rfl, SA⟩
                        refine hK.out _ _ SA (fun hHeld => ?_)
                        clear hK K
                        refine wpAnyH_take (i := 9) (oi := { dst := some 8, op := Op.assign (Operand.tmp 74), type := 4, pos := "ref.go:54", after := #[{ on := 8, ground := Ground.data }, { on := 8, ground := Ground.chain }, { on := 0, ground := Ground.phase }, { on := 1, ground := Ground.phase }, { on := 2, ground := Ground.phase }, { on := 3, ground := Ground.phase }, { on := 4, ground := Ground.phase }, { on := 5, ground := Ground.phase }, { on := 6, ground := Ground.phase }, { on := 7, ground := Ground.phase }, { on := 8, ground := Ground.phase }], guard := none }) (v := ?_) rfl (by kernel_rfl) (by kernel_rfl) (by kernel_rfl) (fun _ _ _ h => h) (Or.inl ⟨by rfl, ?_⟩) (by assumption) ?_
                        rotate_left
                        · (intro w hSw; go_simp; first | done | (with_reducible rfl))
                        simp only [Act.put, List.setIfInBounds_toArray, List.set_cons_zero, List.set_cons_succ]
                        refine wpAnyH_done (by kernel_rfl) ?_ _
                        have HSX := Keep.mk hHeld
                        clear hHeld HSM HZC
                        cases sb with
                        | true =>
                          go_wp2_with fail
                          go_ret2
                          exact HNO.out _ _ (fun q => q.2.2.2.2.2 (hGd.out.bad HPP.out (.inr (.inr ⟨k, z, hk, HSB.out.2, HSB.out.1⟩)))) rfl HSX.out.g
                        | false =>
                          have HN2 : Keep (∀ j z, j < k + 1 → P[j]? = some z → decide (Na.foldL (Na.sl p.1) = Na.foldL (Na.sl z.1)) = false) := ⟨fun j y hj hy => by
                            by_cases e : j = k
                            · subst e
                              rw [HSB.out.2] at hy
                              cases hy
                              exact HSB.out.1
                            · exact hN.out j y (by omega) hy⟩
                          go_wp2_with fail
                          go_roundw
                          case rel => exact ⟨k + 1, by omega, rfl, HSX, HN2⟩
                          case measure => simp [intOf]; omega
                      · have hk1 : ¬ (k : Int) < (i : Nat) := by omega
                        have HSX : Keep (Sep w wr [boxA cb cl 24]) := ⟨hS.out.tail⟩
                        have HG2 : Keep (Gd P (i + 1)) := ⟨hGd.out.step HPP.out HO.out.1 HO.out.2 (fun j z hj hz => hN.out j z (by omega) hz)⟩
                        clear hS
                        go_wp2_with fail
                        go_roundw
                        case rel => exact ⟨i + 1, by have := HI.out; omega, rfl, HSX, HG2⟩
                        case measure => simp [intOf]; have := HI.out; omega
                  · have l32 : ¬ (p.2.size : Int) = 32 := by omega
                    have l33 : (p.2.size == 32) = false := by simpa using h32
                    have l34 : decide (p.2.size = 32) = false := decide_eq_false h32
                    go_wp2_with fail
                    go_ret2
                    exact HNO.out _ _ (fun q => q.2.2.2.2.2 (hGd.out.bad HPP.out (.inr (.inl h32)))) rfl HS4.out.g
                · have e60 : Na.chk p.1 = 60 := Na.chk_no hok
                  rw [e60]
                  go_wp2_with fail
                  go_ret2
                  exact HNO.out _ _ (fun q => q.2.2.2.2.2 (hGd.out.bad HPP.out (.inl hok))) rfl HS4.out.g
              · have hi1 : ¬ (i : Int) < (n : Nat) := by omega
                obtain ⟨v0, v1, v2, v3, v4, v5, v6, v7, v8, v9, v10, v11, hq, hqv⟩ := HCQ.out
                have RNG := Keep.mk (hS.out.boxGet k0m).range
                rw [hq] at RNG
                have S5 := hS.out.newBox #[v0, v1, v2, v3, v4, v5, v6, v7, v8, v9, v10, v11, .slice a n cap, .slice none 0 0] 78
                obtain ⟨W5, hW5⟩ : ∃ W5, wo.alloc (.cells #[v0, v1, v2, v3, v4, v5, v6, v7, v8, v9, v10, v11, .slice a n cap, .slice none 0 0] 78) = W5 := ⟨_, rfl⟩
                obtain ⟨lb, hlb⟩ : ∃ lb, wo.heap.size = lb := ⟨_, rfl⟩
                rw [hW5, hlb] at S5
                have S6 := S5.none
                obtain ⟨W6, hW6⟩ : ∃ W6, W5.alloc (.cells #[] 73) = W6 := ⟨_, rfl⟩
                obtain ⟨eb, heb⟩ : ∃ eb, W5.heap.size = eb := ⟨_, rfl⟩
                rw [hW6, heb] at S6
                obtain ⟨v13, W7, r7, S7⟩ := S6.inp (HIN.out _ _ S6) HZ.out (by rw [HP.out.1]; have := HB2.out.2.2.2.2; omega)
                obtain ⟨a9, c9, hv13⟩ := own_slice (S7.rowGet k0m)
                subst hv13
                have c12' : W6.cell? ⟨cb, 12, none⟩ = some (.slice a n cap) := (S6.boxGet k2m).cellv 12 _ HCL.out.2.2.2.2.2
                have d12 : W7.cell? ⟨lb, 12, none⟩ = some (.slice a n cap) := (S7.boxGet k1m).cellv 12 _ rfl
                have f12 : W7.frozen? ⟨lb, 12, none⟩ = false := (S7.boxGet k1m).frozen 12
                have S8 := S7.swap.boxPut 12 (.slice a9 P.length c9)
                have HG8 : Keep (Sep w (W7.setCell ⟨lb, 12, none⟩ (.slice a9 P.length c9)) [rlobA lb ⟨c, P, []⟩]) := ⟨by
                  refine Sep.cls (l := []) (rlobL lb ⟨c, P, []⟩) (.slice a9 P.length c9, .slice none 0 0, []) ?_
                  have S9 : Sep w (W7.setCell ⟨lb, 12, none⟩ (.slice a9 P.length c9)) (boxA lb [v0, v1, v2, v3, v4, v5, v6, v7, v8, v9, v10, v11, .slice a9 P.length c9, .slice none 0 0] 78 :: prow (.slice a9 P.length c9) P :: []) := (S8.perm (List.perm_append_comm (l₁ := [_, _]) (l₂ := [_]))).tail
                  have SA := S9.nilV 95 1
                  have SB : Sep w (W7.setCell ⟨lb, 12, none⟩ (.slice a9 P.length c9)) (boxA lb [v0, v1, v2, v3, v4, v5, v6, v7, v8, v9, v10, v11, .slice a9 P.length c9, .slice none 0 0] 78 :: prow (.slice a9 P.length c9) P :: rowV 95 1 (.slice none 0 0) 0 [] :: []) := SA.perm (List.perm_append_comm (l₁ := [_]) (l₂ := [_, _]))
                  have SC := SB.know (p := ([] : List Rp).map Rp.x = []) rfl
                  show Sep w _ (pureA (([] : List Rp).map Rp.x = []) :: boxA lb ((cfv c (.slice a9 P.length c9)).toList ++ [.slice none 0 0]) 78 :: prow (.slice a9 P.length c9) P :: rowV 95 1 (.slice none 0 0) 0 [] :: [])
                  rw [hqv]
                  exact SC⟩
                clear S8
                have HAP := Keep.mk r7
                have HB7 := Keep.mk built70
                have hbs := bs_none W5
                have hbb := hbs
                rw [hW6, heb] at hbs
                have HAL := hGd.out.all (by rw [HP.out.1]; omega)
                have HAA := Keep.mk HAL
                clear S5 S6 S7 r7 hS hq hqv HAL hbb
                go_wp2_with (first
                  | (show wpList _ _ _ ({ dst := _, op := Op.load 24 _, type := _, pos := _, after := _, guard := _ } :: _) _ _
                     refine wpList_load_mid rfl 24 _ rfl _ _ rfl _ _ RNG.out hdu hdr (by exact info24q) ?_)
                  | (show wpList _ _ _ ({ dst := _, op := Op.build 78 _, type := _, pos := _, after := _, guard := _ } :: _) _ _
                     refine build_p (by rfl) 78 _ rfl _ ((congrArg (Tryz.prog.built 78) (by simp only [List.map_toArray, List.map_cons, List.map_nil]; rfl)).trans (HB7.out _ _ _ _ _ _ _ _ _ _ _ _ _)) ?_)
                  | (at_builtin; refine wpList_append_run _ rfl _ _ 22 rfl _ _ rfl rfl HAP.out ?_))
                go_ret2
                exact HYES.out _ _ _ HB2.out.1 HB2.out.2.1 HB2.out.2.2.1 HB2.out.2.2.2.1 HB2.out.2.2.2.2 HAA.out rfl HG8.out
end Go.Proofs.YtplcicbpkbamnabGreatDoor.Lo

