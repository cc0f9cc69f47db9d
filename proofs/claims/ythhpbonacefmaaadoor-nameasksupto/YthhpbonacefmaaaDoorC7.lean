/- the reference: within. -/
import Derived.Test.YthhpbonacefmaaaDoorC4
import Derived.Deep.QuietTactic
import Derived.Deep.DeepCutAuto
namespace Go.Proofs.YthhpbonacefmaaaDoor
open Go Go.RowKit

theorem slcP (A : Option Addr) (n c p : Nat) (hp : p ≤ n) (hc : n ≤ c) (hA : A = none → c = 0) : ∃ A1, (∀ W : World, (Instr.slice 54 (.slice A n c) (some (.int .i64 (p : Int))) none none).run Tryd.prog W = .ok (.slice A1 (n - p) (c - p)) W) ∧ ∀ (w : World) (q : List (Nat × List UInt8)), SrcP w A n c q → SrcP w A1 (n - p) (c - p) (q.drop p) := by
  refine ⟨if c = p then A else A.map (·.add (p * 2)), fun W => ?_, fun w q h => ⟨by rw [List.length_drop, ← h.1], by omega, fun e => ?_, fun ad e => ?_⟩⟩
  · have z : (sizeOf (Tryd.prog.elem 54)).run Tryd.prog W = .ok 2 W := by kernel_rfl
    rw [run_slice_l W 54 A n c (by kernel_rfl) .i64 p (by omega) (by omega), z]
    simp only [Result.andThen, sliced, Int.toNat_natCast]
  · have : c = 0 := by
      split at e
      · exact hA e
      · cases A with
        | none => exact hA rfl
        | some a => cases e
    omega
  · obtain ⟨h1, h2, h3, h4⟩ := h
    by_cases hcp : c = p
    · rw [if_pos hcp] at e
      obtain ⟨b, o, rfl, _⟩ := h4 ad e
      refine ⟨b, o, rfl, fun j x hx => ?_⟩
      rw [List.getElem?_drop] at hx
      have := (List.getElem?_eq_some_iff.1 hx).1
      omega
    · rw [if_neg hcp] at e
      cases A with
      | none => cases e
      | some a =>
        obtain ⟨b, o, rfl, hcs⟩ := h4 a rfl
        cases e
        refine ⟨b, o + p * 2, by simp only [Addr.add_mid], fun j x hx => ?_⟩
        rw [List.getElem?_drop] at hx
        have := hcs _ _ hx
        rw [show o + p * 2 + j * 2 = o + (p + j) * 2 by omega]
        exact this
theorem SrcP.drew {w : World} {A : Option Addr} {n c : Nat} {ps : List (Nat × List UInt8)} (h : SrcP w A n c ps) (m : Nat) : SrcP (w.drewN m) A n c ps := h
abbrev ns (ps : List (Nat × List UInt8)) : List Nat := ps.map Prod.fst
theorem drew_add (w : World) (a b : Nat) : (w.drewN a).drewN b = w.drewN (a + b) := by
  simp [World.drewN, Nat.add_assoc]

/-- what is asked of within at so many changes -/
def WI (m : Nat) : Prop := ∀ (A1 A2 : Option Addr) (n1 c1 n2 c2 : Nat) (ps qs : List (Nat × List UInt8)) (w : World), SrcP w A1 n1 c1 ps → SrcP w A2 n2 c2 qs → n1 ≤ 1048576 → n2 ≤ 1048576 →
    Calls Tryd.prog 38 #[.slice A1 n1 c1, .slice A2 n2 c2, iv m] w fun e w' => e = .returned (.bool (withinL m (ns ps) (ns qs))) ∧ ∃ k, w' = w.drewN k

set_option maxRecDepth 100000 in
set_option maxHeartbeats 16000000 in
theorem within_any (m : Nat) (hm : m ≤ 8) (ih : ∀ j, j + 1 = m → WI j) : WI m := by
  intro A1 A2 n1 c1 n2 c2 ps qs w h1 h2 hn1 hn2
  obtain ⟨V, hV⟩ : ∃ V, withinL m (ns ps) (ns qs) = V := ⟨_, rfl⟩
  rw [hV]
  have HV := Keep.mk hV
  have H1 := Keep.mk h1
  have H2 := Keep.mk h2
  have e1 := h1.1
  have e2 := h2.1
  have E1 := Keep.mk e1
  have E2 := Keep.mk e2
  clear hV h1 h2 e1 e2
  go_enter Tryd.func38, Tryd.ntmps38
  go_wp2_with fail
  go_loopw [7] (fun i w' => ∃ (k d : Nat), i = .int .i64 k ∧ k ≤ n1 ∧ k ≤ n2 ∧ w' = w.drewN d ∧ Keep (withinL m ((ns ps).drop k) ((ns qs).drop k) = V)) (fun i _ => n1 - (intOf i).toNat)
  case atStart => exact ⟨0, 0, rfl, Nat.zero_le _, Nat.zero_le _, rfl, ⟨HV.out⟩⟩
  case round =>
    obtain ⟨k, d, rfl, hk1, hk2, rfl, HVk⟩ := hrel
    obtain ⟨E, hE⟩ : ∃ E, decide (k < n1 ∧ k < n2 ∧ (ns ps)[k]? = (ns qs)[k]?) = E := ⟨_, rfl⟩
    have HE := Keep.mk hE
    clear hE
    go_upto_region 2 with fail
    go_cut [30] (fun sv wx => sv = .bool E ∧ ∃ d, wx = w.drewN d)
    case first =>
      by_cases g1 : k < n1
      · by_cases g2 : k < n2
        · obtain ⟨p, hp⟩ : ∃ p, ps[k]? = some p := ⟨_, List.getElem?_eq_getElem (by rw [← E1.out]; exact g1)⟩
          obtain ⟨q, hq⟩ : ∃ q, qs[k]? = some q := ⟨_, List.getElem?_eq_getElem (by rw [← E2.out]; exact g2)⟩
          cases A1 with
          | none => have := H1.out.2.2.1 rfl; have := H1.out.2.1; omega
          | some ad1 =>
          cases A2 with
          | none => have := H2.out.2.2.1 rfl; have := H2.out.2.1; omega
          | some ad2 =>
          obtain ⟨b1, o1, rfl, hc1⟩ := H1.out.2.2.2 ad1 rfl
          obtain ⟨b2, o2, rfl, hc2⟩ := H2.out.2.2.2 ad2 rfl
          have x1 := (hc1 k p hp).1
          have x2 := (hc2 k q hq).1
          have e : E = ((p.1 : Int) == (q.1 : Int)) := by
            rw [← HE.out, Bool.eq_iff_iff, decide_eq_true_eq, beq_iff_eq]
            simp only [ns, List.getElem?_map, hp, hq, Option.map_some, Option.some.injEq]
            omega
          subst e
          clear hc1 hc2 hp hq
          go_quiet (fail)
          go_wp2_with fail
          go_meet
          exact ⟨rfl, _, drew_add _ _ _⟩
        · have e : E = false := by rw [← HE.out]; exact decide_eq_false (fun h => g2 h.2.1)
          subst e
          go_quiet (fail)
          go_wp2_with fail
          go_meet
          exact ⟨rfl, _, drew_add _ _ _⟩
      · have e : E = false := by rw [← HE.out]; exact decide_eq_false (fun h => g1 h.1)
        subst e
        go_quiet (fail)
        go_wp2_with fail
        go_meet
        exact ⟨rfl, _, drew_add _ _ _⟩
    case rest =>
    obtain ⟨rfl, d2, rfl⟩ := hcut
    cases E with
    | true =>
      have hE := of_decide_eq_true HE.out
      have HV2 : Keep (withinL m ((ns ps).drop (k + 1)) ((ns qs).drop (k + 1)) = V) := ⟨by
        rw [← HVk.out]
        have l1 : k < (ns ps).length := by rw [List.length_map, ← E1.out]; exact hE.1
        have l2 : k < (ns qs).length := by rw [List.length_map, ← E2.out]; exact hE.2.1
        have h3 := hE.2.2
        rw [List.getElem?_eq_getElem l1, List.getElem?_eq_getElem l2] at h3
        rw [List.drop_eq_getElem_cons l1, List.drop_eq_getElem_cons l2, Option.some.inj h3, within_strip]⟩
      have hka : k < n1 := hE.1
      have hkb : k < n2 := hE.2.1
      clear hE
      go_wp2_with fail
      go_roundw
      case rel => exact ⟨k + 1, d2, by simp, by omega, by omega, (by first | rfl | trivial), HV2⟩
      case measure => simp [intOf]; omega
    | false =>
      have hE := of_decide_eq_false HE.out
      obtain ⟨B1, s1, f1⟩ := slcP A1 n1 c1 k hk1 H1.out.2.1 H1.out.2.2.1
      obtain ⟨B2, s2, f2⟩ := slcP A2 n2 c2 k hk2 H2.out.2.1 H2.out.2.2.1
      have hX := f1 w ps H1.out
      have hY := f2 w qs H2.out
      have hdif : ∀ p X' q Y', ps.drop k = p :: X' → qs.drop k = q :: Y' → p.1 ≠ q.1 := by
        intro p X' q Y' e1 e2 e3
        apply hE
        have p1 : ps[k]? = some p := by have := congrArg (·[0]?) e1; simpa using this
        have q1 : qs[k]? = some q := by have := congrArg (·[0]?) e2; simpa using this
        refine ⟨by rw [E1.out]; exact (List.getElem?_eq_some_iff.1 p1).1, by rw [E2.out]; exact (List.getElem?_eq_some_iff.1 q1).1, ?_⟩
        simp [ns, p1, q1, e3]
      have hVx : withinL m (ns (ps.drop k)) (ns (qs.drop k)) = V := by
        have := HVk.out
        simp only [ns, List.map_drop] at this ⊢
        exact this
      generalize ps.drop k = X at hX hdif hVx
      generalize qs.drop k = Y at hY hdif hVx
      have hb1 : n1 - k ≤ 1048576 := by omega
      have hb2 : n2 - k ≤ 1048576 := by omega
      obtain ⟨N1, hN1⟩ : ∃ q, n1 - k = q := ⟨_, rfl⟩
      obtain ⟨N2, hN2⟩ : ∃ q, n2 - k = q := ⟨_, rfl⟩
      obtain ⟨C1, hC1⟩ : ∃ q, c1 - k = q := ⟨_, rfl⟩
      obtain ⟨C2, hC2⟩ : ∃ q, c2 - k = q := ⟨_, rfl⟩
      rw [hN1] at hX hb1 s1
      rw [hN2] at hY hb2 s2
      rw [hC1] at hX s1
      rw [hC2] at hY s2
      have HX := Keep.mk hX
      have HY := Keep.mk hY
      have HD := Keep.mk hdif
      have hx0 := hX.1
      have hy0 := hY.1
      clear hE f1 f2 hX hY hdif hN1 hN2 hC1 hC2 HE HVk HV H1 H2 E1 E2 hk1 hk2 hn1 hn2
      cases X with
      | nil =>
        cases Y with
        | nil =>
          have e : V = true := by rw [← hVx]; exact within_end _
          subst e
          have z1 : N1 = 0 := hx0
          have z2 : N2 = 0 := hy0
          subst z1 z2
          clear hVx hx0 hy0
          go_wp2_with fail
          go_ret
          exact ⟨rfl, _, rfl⟩
        | cons q Y' =>
          have z1 : N1 = 0 := hx0
          have z2 : 0 < N2 := by rw [hy0]; simp
          subst z1
          have HX0 := Keep.mk hx0
          have HY0 := Keep.mk hy0
          clear hx0 hy0
          have q2 : ((N2 : Int) == 0) = false := by rw [beq_eq_false_iff_ne]; omega
          cases m with
          | zero =>
            have e : V = false := by rw [← hVx]; exact within_zero_r
            subst e
            clear hVx
            go_wp2_with fail
            go_ret
            exact ⟨rfl, _, rfl⟩
          | succ j =>
            have hj0 : (((j + 1 : Nat) : Int) == 0) = false := by rw [beq_eq_false_iff_ne]; omega
            have hjj : (((j + 1 : Nat) : Int)) - 1 = (j : Int) := by omega
            obtain ⟨M, hM⟩ : ∃ M : Int, ((j + 1 : Nat) : Int) = M := ⟨_, rfl⟩
            rw [hM] at hj0 hjj ⊢
            have hMb : 1 ≤ M ∧ M ≤ 8 := by omega
            have hM0 : ¬ M = 0 := by omega
            have HM := Keep.mk hM
            have hwj : IntKind.i64.wrap (M - 1) = (j : Int) := by rw [hjj]; simp [IntKind.wrap, show IntKind.i64.bits = 64 from rfl]; omega
            have hwj2 : IntKind.i64.wrap (j : Int) = (j : Int) := by simp [IntKind.wrap, show IntKind.i64.bits = 64 from rfl]; omega
            by_cases dd2 : M < (N2 : Int) - (0 : Int)
            · have e : V = false := by
                rw [← hVx]
                refine within_far (.inr ?_)
                simp only [ns, List.length_map]
                have := HX0.out
                have := HY0.out
                omega
              subst e
              clear hVx
              go_wp2_with fail
              go_ret
              exact ⟨rfl, _, rfl⟩
            have IH := Keep.mk (ih j rfl)
            clear hM
            obtain ⟨B3, s3, f3⟩ := slcP B2 N2 C2 1 (by omega) HY.out.2.1 HY.out.2.2.1
            have HY3 := Keep.mk (f3 w _ HY.out)
            have hVs : withinL j (ns []) (ns Y') = V := by rw [← hVx]; exact within_step_r.symm
            have HVs := Keep.mk hVs
            clear f3 hVx hVs
            simp only [Int.cast_ofNat_Int] at s3
            go_wp2_with fail
            refine (IH.out _ _ _ _ _ _ _ _ _ (HX.out.drew d2) (HY3.out.drew d2) (by omega) (by omega)).mono ?_
            rintro e wz ⟨rfl, d3, rfl⟩
            rw [show withinL j (ns []) (ns (List.drop 1 (q :: Y'))) = V from HVs.out]
            cases V with
            | true =>
              go_wp2_with fail
              go_ret
              exact ⟨rfl, _, by first | rfl | exact drew_add _ _ _ | (rw [drew_add, drew_add])⟩
            | false =>
              go_wp2_with fail
              go_quiet (fail)
              go_wp2_with fail
              go_ret
              exact ⟨rfl, _, by first | rfl | exact drew_add _ _ _ | (rw [drew_add, drew_add])⟩
      | cons p X' =>
        cases Y with
        | nil =>
          have z1 : 0 < N1 := by rw [hx0]; simp
          have z2 : N2 = 0 := hy0
          subst z2
          have HX0 := Keep.mk hx0
          have HY0 := Keep.mk hy0
          clear hx0 hy0
          have q1 : ((N1 : Int) == 0) = false := by rw [beq_eq_false_iff_ne]; omega
          cases m with
          | zero =>
            have e : V = false := by rw [← hVx]; exact within_zero_l
            subst e
            clear hVx
            go_wp2_with fail
            go_ret
            exact ⟨rfl, _, rfl⟩
          | succ j =>
            have hj0 : (((j + 1 : Nat) : Int) == 0) = false := by rw [beq_eq_false_iff_ne]; omega
            have hjj : (((j + 1 : Nat) : Int)) - 1 = (j : Int) := by omega
            obtain ⟨M, hM⟩ : ∃ M : Int, ((j + 1 : Nat) : Int) = M := ⟨_, rfl⟩
            rw [hM] at hj0 hjj ⊢
            have hMb : 1 ≤ M ∧ M ≤ 8 := by omega
            have hM0 : ¬ M = 0 := by omega
            have HM := Keep.mk hM
            have hwj : IntKind.i64.wrap (M - 1) = (j : Int) := by rw [hjj]; simp [IntKind.wrap, show IntKind.i64.bits = 64 from rfl]; omega
            have hwj2 : IntKind.i64.wrap (j : Int) = (j : Int) := by simp [IntKind.wrap, show IntKind.i64.bits = 64 from rfl]; omega
            by_cases dd1 : M < (N1 : Int) - (0 : Int)
            · have e : V = false := by
                rw [← hVx]
                refine within_far (.inl ?_)
                simp only [ns, List.length_map]
                have := HX0.out
                have := HY0.out
                omega
              subst e
              clear hVx
              go_wp2_with fail
              go_ret
              exact ⟨rfl, _, rfl⟩
            have IH := Keep.mk (ih j rfl)
            clear hM
            obtain ⟨B3, s3, f3⟩ := slcP B1 N1 C1 1 (by omega) HX.out.2.1 HX.out.2.2.1
            have HX3 := Keep.mk (f3 w _ HX.out)
            have hVs : withinL j (ns X') (ns []) = V := by rw [← hVx]; exact within_step_l.symm
            have HVs := Keep.mk hVs
            clear f3 hVx hVs
            simp only [Int.cast_ofNat_Int] at s3
            go_wp2_with fail
            refine (IH.out _ _ _ _ _ _ _ _ _ (HX3.out.drew d2) (HY.out.drew d2) (by omega) (by omega)).mono ?_
            rintro e wz ⟨rfl, d3, rfl⟩
            rw [show withinL j (ns (List.drop 1 (p :: X'))) (ns []) = V from HVs.out]
            cases V with
            | true =>
              go_wp2_with fail
              go_ret
              exact ⟨rfl, _, by first | rfl | exact drew_add _ _ _ | (rw [drew_add, drew_add])⟩
            | false =>
              go_wp2_with fail
              go_quiet (fail)
              go_wp2_with fail
              go_ret
              exact ⟨rfl, _, by first | rfl | exact drew_add _ _ _ | (rw [drew_add, drew_add])⟩
        | cons q Y' =>
          have z1 : 0 < N1 := by rw [hx0]; simp
          have z2 : 0 < N2 := by rw [hy0]; simp
          have hpq : p.1 ≠ q.1 := HD.out p X' q Y' rfl rfl
          have HX0 := Keep.mk hx0
          have HY0 := Keep.mk hy0
          clear hx0 hy0
          have q1 : ((N1 : Int) == 0) = false := by rw [beq_eq_false_iff_ne]; omega
          have q2 : ((N2 : Int) == 0) = false := by rw [beq_eq_false_iff_ne]; omega
          cases m with
          | zero =>
            have e : V = false := by rw [← hVx]; exact within_zero hpq
            subst e
            clear hVx
            go_wp2_with fail
            go_ret
            exact ⟨rfl, _, rfl⟩
          | succ j =>
            have hj0 : (((j + 1 : Nat) : Int) == 0) = false := by rw [beq_eq_false_iff_ne]; omega
            have hjj : (((j + 1 : Nat) : Int)) - 1 = (j : Int) := by omega
            obtain ⟨M, hM⟩ : ∃ M : Int, ((j + 1 : Nat) : Int) = M := ⟨_, rfl⟩
            rw [hM] at hj0 hjj ⊢
            have hMb : 1 ≤ M ∧ M ≤ 8 := by omega
            have hM0 : ¬ M = 0 := by omega
            have HM := Keep.mk hM
            have hwj : IntKind.i64.wrap (M - 1) = (j : Int) := by rw [hjj]; simp [IntKind.wrap, show IntKind.i64.bits = 64 from rfl]; omega
            have hwj2 : IntKind.i64.wrap (j : Int) = (j : Int) := by simp [IntKind.wrap, show IntKind.i64.bits = 64 from rfl]; omega
            by_cases dd1 : M < (N1 : Int) - (N2 : Int)
            · have e : V = false := by
                rw [← hVx]
                refine within_far (.inl ?_)
                simp only [ns, List.length_map]
                have := HX0.out
                have := HY0.out
                omega
              subst e
              clear hVx
              go_wp2_with fail
              go_ret
              exact ⟨rfl, _, rfl⟩
            by_cases dd2 : M < (N2 : Int) - (N1 : Int)
            · have e : V = false := by
                rw [← hVx]
                refine within_far (.inr ?_)
                simp only [ns, List.length_map]
                have := HX0.out
                have := HY0.out
                omega
              subst e
              clear hVx
              go_wp2_with fail
              go_ret
              exact ⟨rfl, _, rfl⟩
            have IH := Keep.mk (ih j rfl)
            clear hM
            obtain ⟨B3, s3, f3⟩ := slcP B1 N1 C1 1 (by omega) HX.out.2.1 HX.out.2.2.1
            obtain ⟨B4, s4, f4⟩ := slcP B2 N2 C2 1 (by omega) HY.out.2.1 HY.out.2.2.1
            have HX3 := Keep.mk (f3 w _ HX.out)
            have HY3 := Keep.mk (f4 w _ HY.out)
            have hVs : (withinL j (ns X') (ns (q :: Y')) || (withinL j (ns (p :: X')) (ns Y') || withinL j (ns X') (ns Y'))) = V := by rw [← hVx]; exact (within_step hpq).symm
            simp only [Int.cast_ofNat_Int] at s3 s4
            obtain ⟨r1, h1⟩ : ∃ r, withinL j (ns X') (ns (q :: Y')) = r := ⟨_, rfl⟩
            obtain ⟨r2, h2⟩ : ∃ r, withinL j (ns (p :: X')) (ns Y') = r := ⟨_, rfl⟩
            obtain ⟨r3, h3⟩ : ∃ r, withinL j (ns X') (ns Y') = r := ⟨_, rfl⟩
            rw [h1, h2, h3] at hVs
            have K1 := Keep.mk h1
            have K2 := Keep.mk h2
            have K3 := Keep.mk h3
            clear f3 f4 hVx h1 h2 h3
            subst hVs
            go_wp2_with fail
            refine (IH.out _ _ _ _ _ _ _ _ _ (HX3.out.drew d2) (HY.out.drew d2) (by omega) (by omega)).mono ?_
            rintro e wz ⟨rfl, d3, rfl⟩
            rw [show withinL j (ns (List.drop 1 (p :: X'))) (ns (q :: Y')) = r1 from K1.out]
            cases r1 with
            | true =>
              go_wp2_with fail
              go_ret
              exact ⟨rfl, _, by first | rfl | exact drew_add _ _ _ | (rw [drew_add, drew_add])⟩
            | false =>
              go_wp2_with fail
              refine (IH.out _ _ _ _ _ _ _ _ _ (HX.out.drew (d2 + d3)) (HY3.out.drew (d2 + d3)) (by omega) (by omega)).mono ?_
              rintro e wz ⟨rfl, d4, rfl⟩
              rw [show withinL j (ns (p :: X')) (ns (List.drop 1 (q :: Y'))) = r2 from K2.out]
              cases r2 with
              | true =>
                go_wp2_with fail
                go_ret
                exact ⟨rfl, _, by first | rfl | exact drew_add _ _ _ | (rw [drew_add, drew_add])⟩
              | false =>
                have HC3 : Keep (∀ ww : World, SrcP ww B3 (N1 - 1) (C1 - 1) (List.drop 1 (p :: X')) → SrcP ww B4 (N2 - 1) (C2 - 1) (List.drop 1 (q :: Y')) → Calls Tryd.prog 38 #[.slice B3 (N1 - 1) (C1 - 1), .slice B4 (N2 - 1) (C2 - 1), iv j] ww fun e w' => e = .returned (.bool r3) ∧ ∃ k, w' = ww.drewN k) := ⟨fun ww a1 a2 => by
                  have := IH.out _ _ _ _ _ _ _ _ ww a1 a2 (by omega) (by omega)
                  rwa [show withinL j (ns (List.drop 1 (p :: X'))) (ns (List.drop 1 (q :: Y'))) = r3 from K3.out] at this⟩
                go_wp2_with fail
                go_quiet ((go_at_call 38; refine (HC3.out _ ?_ ?_).mono ?_; exact HX3.out; exact HY3.out; exact fun e w9 h9 => ⟨h9.1, by obtain ⟨m9, e9⟩ := h9.2; exact ⟨_, by rw [e9, drew_add, Nat.add_assoc]⟩⟩))
                go_wp2_with fail
                go_ret
                exact ⟨rfl, _, by first | rfl | exact drew_add _ _ _ | (rw [drew_add, drew_add])⟩
theorem within_c : ∀ m, m ≤ 8 → WI m
  | 0, h => within_any 0 h (fun j e => by omega)
  | m + 1, h => within_any (m + 1) h (fun j e => by
      obtain rfl : j = m := by omega
      exact within_c j (by omega))
set_option maxRecDepth 100000 in
set_option maxHeartbeats 8000000 in
theorem rnear_c (a b : ByteArray) (w : World) (ha : a.size ≤ 1048576) (hb : b.size ≤ 1048576) : Calls Tryd.prog 23 #[.string a, .string b] w fun e w' => e = .returned (iv (nr (nums a) (nums b))) ∧ w.grownBy w' none := by
  have ra := rn_le a
  have rb := rn_le b
  obtain ⟨V, hV⟩ : ∃ V, nr (nums a) (nums b) = V := ⟨_, rfl⟩
  rw [hV]
  have HV := Keep.mk hV
  clear hV
  go_enter Tryd.func23, Tryd.ntmps23
  go_wp2_with fail
  refine (all_c a _ ha).mono ?_
  rintro e w1 ⟨v1, rfl, hR1, hG1⟩
  have HR1 := Keep.mk hR1
  have HG1 := Keep.mk hG1
  clear hR1 hG1
  go_wp2_with fail
  refine (all_c b _ hb).mono ?_
  rintro e w2 ⟨v2, rfl, hR2, hG2⟩
  obtain ⟨A1, c1, rfl, hS1⟩ := (HR1.out.kept hG2).src
  obtain ⟨A2, c2, rfl, hS2⟩ := hR2.src
  have HG2 : Keep (w.grownBy w2 none) := ⟨HG1.out.trans hG2⟩
  have HW : Keep (∀ m : Nat, m ≤ 8 → ∀ d : Nat, Calls Tryd.prog 38 #[.slice A1 (pieces (sl a)).length c1, .slice A2 (pieces (sl b)).length c2, iv m] (w2.drewN d) fun e w' => e = .returned (.bool (withinL m (nums a) (nums b))) ∧ ∃ k, w' = (w2.drewN d).drewN k) :=
    ⟨fun m hm d => within_c m hm A1 A2 _ _ _ _ _ _ (w2.drewN d) (hS1.drew d) (hS2.drew d) (by unfold rn at ra; omega) (by unfold rn at rb; omega)⟩
  clear HR1 hR2 hG2 hS1 hS2 HG1
  generalize (pieces (sl a)).length = l1 at HW ⊢
  generalize (pieces (sl b)).length = l2 at HW ⊢
  go_wp2_with fail
  go_loopw [7] (fun i w' => ∃ k d : Nat, i = .int .i64 k ∧ k ≤ 8 ∧ w' = w2.drewN d ∧ Keep (k ≤ lev (nums a) (nums b))) (fun i _ => 8 - (intOf i).toNat)
  case atStart => exact ⟨0, 0, rfl, by omega, rfl, ⟨Nat.zero_le _⟩⟩
  case round =>
    obtain ⟨k, d, rfl, hk, rfl, HL⟩ := hrel
    by_cases h8 : k = 8
    · have e : V = 8 := by rw [← HV.out]; have := HL.out; unfold nr; omega
      subst e h8
      go_wp2_with fail
      go_ret
      exact ⟨rfl, HG2.out.trans (gr_drewN _ _ _)⟩
    · have hk8 : k < 8 := by omega
      go_wp2_with fail
      refine (HW.out k hk d).mono ?_
      rintro e w3 ⟨rfl, d3, rfl⟩
      by_cases hl : lev (nums a) (nums b) ≤ k
      · have e : V = k := by rw [← HV.out]; have := HL.out; unfold nr; omega
        rw [show withinL k (nums a) (nums b) = true from decide_eq_true hl]
        subst e
        clear hl
        go_wp2_with fail
        go_ret
        exact ⟨rfl, HG2.out.trans (by first | exact gr_drewN _ _ _ | exact (gr_drewN _ _ _).trans (gr_drewN _ _ _))⟩
      · rw [show withinL k (nums a) (nums b) = false from decide_eq_false hl]
        have HL2 : Keep (k + 1 ≤ lev (nums a) (nums b)) := ⟨by omega⟩
        clear hl
        go_wp2_with fail
        go_roundw
        case rel => exact ⟨k + 1, d + d3, by simp, by omega, (by first | rfl | exact drew_add _ _ _ | trivial), HL2⟩
        case measure => simp [intOf]; omega
end Go.Proofs.YthhpbonacefmaaaDoor
