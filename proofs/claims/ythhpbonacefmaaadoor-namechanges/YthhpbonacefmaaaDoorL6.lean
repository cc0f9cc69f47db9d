/- alike's walk. -/
import Derived.Test.YthhpbonacefmaaaDoorL5
namespace Go.Proofs.YthhpbonacefmaaaDoor
open Go Go.RowKit

def szOf : Value → Nat
  | .string s => s.size
  | _ => 0
theorem cut_one {p : Nat × List UInt8} {ps : List (Nat × List UInt8)} (g : Good (p :: ps)) : cutB (mk (flat (p :: ps))) 1 = mk p.2 := by
  unfold cutB cutL
  rw [sl_mk, pieces_of_good g]
  simp [flat]
theorem cut_rest (p : Nat × List UInt8) (ps : List (Nat × List UInt8)) : (mk (flat (p :: ps))).extract (mk p.2).size (mk (flat (p :: ps))).size = mk (flat ps) := by
  apply sl_inj
  rw [sl_ext, sl_mk, sl_mk, mk_size, mk_size, List.take_length, flat_cons, List.drop_left]
theorem flat_size (p : Nat × List UInt8) (ps : List (Nat × List UInt8)) : (mk (flat (p :: ps))).size = (mk p.2).size + (mk (flat ps)).size := by
  rw [mk_size, mk_size, mk_size, flat_cons, List.length_append]
/-- where alike stands -/
structure AL (a b x y : ByteArray) (P Q : List (Nat × List UInt8)) : Prop where
  gp : Good P
  gq : Good Q
  ex : x = mk (flat P)
  ey : y = mk (flat Q)
  len : P.length = Q.length
  iff : (nums a = nums b) ↔ P.map Prod.fst = Q.map Prod.fst
theorem AL.nil_size {a b x y : ByteArray} {P Q : List (Nat × List UInt8)} (h : AL a b x y P Q) : (x.size = 0 ↔ P = []) := by
  rw [h.ex, mk_size]
  constructor
  · intro e
    cases P with
    | nil => rfl
    | cons p ps =>
      obtain ⟨_, _, h3⟩ := good_kind h.gp
      rw [flat_cons, List.length_append] at e
      exact absurd (List.eq_nil_of_length_eq_zero (by omega)) h3
  · rintro rfl; rfl

set_option maxRecDepth 100000 in
set_option maxHeartbeats 8000000 in
theorem alike_c (a b : ByteArray) (w : World) (ha : a.size ≤ 281474976710656) (hb : b.size ≤ 281474976710656) :
    Calls Tryd.prog 20 #[.string a, .string b] w fun e w' => e = .returned (.bool (decide (nums a = nums b))) ∧ w.grownBy w' none := by
  have HG : Keep (w.grownBy w none) := ⟨World.grownBy.refl _ _⟩
  have ra := rn_le a
  have rb := rn_le b
  obtain ⟨V, hV⟩ : ∃ V, decide (nums a = nums b) = V := ⟨_, rfl⟩
  have HV := Keep.mk hV
  rw [hV]
  clear hV
  go_enter Tryd.func20, Tryd.ntmps20
  go_wp2_with fail
  refine (runes_c a _ (by omega)).mono ?_
  rintro e w1 ⟨rfl, hG⟩
  replace HG : Keep (w.grownBy w1 none) := ⟨HG.out.trans hG⟩
  clear hG
  go_wp2_with fail
  refine (runes_c b _ (by omega)).mono ?_
  rintro e w2 ⟨rfl, hG⟩
  replace HG : Keep (w.grownBy w2 none) := ⟨HG.out.trans hG⟩
  clear hG
  by_cases hr : rn a = rn b
  case neg =>
    have e : V = false := by rw [← HV.out]; exact decide_eq_false (fun h => hr (by rw [← nums_len, h, nums_len]))
    subst e
    go_wp2_with fail
    go_ret
    exact ⟨rfl, HG.out⟩
  case pos =>
  have H0 : Keep (AL a b a b (pieces (sl a)) (pieces (sl b))) := ⟨good_pieces _, good_pieces _, by rw [flat_pieces, mk_sl], by rw [flat_pieces, mk_sl], hr, Iff.rfl⟩
  go_wp2_with fail
  go_loopw [0, 1] (fun s0 s1 w' => ∃ x y P Q, s0 = .string x ∧ s1 = .string y ∧ x.size ≤ a.size ∧ y.size ≤ b.size ∧ Keep (AL a b x y P Q) ∧ Keep (w.grownBy w' none)) (fun s0 _ _ => szOf s0)
  case atStart => exact ⟨a, b, _, _, rfl, rfl, Nat.le_refl _, Nat.le_refl _, H0, HG⟩
  case round =>
    clear HG H0
    obtain ⟨x, y, P, Q, rfl, rfl, hx, hy, HA, HG⟩ := hrel
    cases P with
    | nil =>
      have hQ : Q = [] := List.eq_nil_of_length_eq_zero HA.out.len.symm
      subst hQ
      have e : V = true := by rw [← HV.out]; exact decide_eq_true (HA.out.iff.2 rfl)
      have ex : x = ⟨#[]⟩ := HA.out.ex
      have ey : y = ⟨#[]⟩ := HA.out.ey
      subst e ex ey
      go_wp2_with fail
      go_ret
      exact ⟨rfl, HG.out⟩
    | cons p ps =>
      cases Q with
      | nil => exact absurd HA.out.len (by simp)
      | cons q qs =>
        obtain ⟨kp, gp, np⟩ := good_kind HA.out.gp
        obtain ⟨kq, gq, nq⟩ := good_kind HA.out.gq
        have hc1 := cut_one HA.out.gp
        have hc2 := cut_one HA.out.gq
        have hr1 := cut_rest p ps
        have hr2 := cut_rest q qs
        have hz1 := flat_size p ps
        have hz2 := flat_size q qs
        rw [← HA.out.ex] at hc1 hr1 hz1
        rw [← HA.out.ey] at hc2 hr2 hz2
        have hn1 : 0 < (mk p.2).size := by rw [mk_size]; exact List.length_pos_iff.2 np
        have hn2 : 0 < (mk q.2).size := by rw [mk_size]; exact List.length_pos_iff.2 nq
        have HPE := Keep.mk (piece_eq kp kq)
        have HS1 : Keep (sl (mk p.2) = p.2 ∧ sl (mk q.2) = q.2) := ⟨sl_mk _, sl_mk _⟩
        have hse := strEq (mk p.2) (mk q.2)
        rw [HS1.out.1, HS1.out.2] at hse
        have HC1 := Keep.mk hc1
        have HC2 := Keep.mk hc2
        have HN : Keep (AL a b (mk (flat ps)) (mk (flat qs)) ps qs → True) := ⟨fun _ => trivial⟩
        have HNX : Keep (p.1 = q.1 → AL a b (mk (flat ps)) (mk (flat qs)) ps qs) := ⟨fun e => ⟨gp, gq, rfl, rfl, by have := HA.out.len; simpa using this, by rw [HA.out.iff]; simp [e]⟩⟩
        have HNF : Keep (p.1 ≠ q.1 → V = false) := ⟨fun e => by rw [← HV.out]; exact decide_eq_false (fun h => e (by have := HA.out.iff.1 h; simp at this; exact this.1))⟩
        clear hc1 hc2 kp kq gp gq np nq HA HN
        obtain ⟨X, hX⟩ : ∃ X, mk p.2 = X := ⟨_, rfl⟩
        obtain ⟨Y, hY⟩ : ∃ Y, mk q.2 = Y := ⟨_, rfl⟩
        rw [hX] at hr1 hz1 hn1 hse HC1 HS1
        rw [hY] at hr2 hz2 hn2 hse HC2 HS1
        obtain ⟨x2, hx2⟩ : ∃ z, mk (flat ps) = z := ⟨_, rfl⟩
        obtain ⟨y2, hy2⟩ : ∃ z, mk (flat qs) = z := ⟨_, rfl⟩
        rw [hx2] at hr1 hz1 HNX
        rw [hy2] at hr2 hz2 HNX
        clear hX hY hx2 hy2
        have hX0 : ((X.size : Int) == 0) = false := by rw [beq_eq_false_iff_ne]; omega
        have hY0 : ((Y.size : Int) == 0) = false := by rw [beq_eq_false_iff_ne]; omega
        have hXe : ¬ X = ByteArray.empty := by rintro rfl; simp at hn1
        have hYe : ¬ Y = ByteArray.empty := by rintro rfl; simp at hn2
        have hle1 : X.size ≤ x.size := by omega
        have hle2 : Y.size ≤ y.size := by omega
        have HZ1 := Keep.mk hz1
        have HZ2 := Keep.mk hz2
        have HB1 : Keep (x2.size ≤ a.size ∧ y2.size ≤ b.size ∧ x2.size < x.size) := ⟨by omega, by omega, by omega⟩
        clear hz1 hz2
        go_wp2_with fail
        refine (cut_c x 1 _ (by omega) (by omega) (by omega)).mono ?_
        rintro e w3 ⟨rfl, hG⟩
        replace HG : Keep (w.grownBy w3 none) := ⟨HG.out.trans hG⟩
        clear hG
        rw [HC1.out]
        go_wp2_with fail
        refine (cut_c y 1 _ (by omega) (by omega) (by omega)).mono ?_
        rintro e w4 ⟨rfl, hG⟩
        replace HG : Keep (w.grownBy w4 none) := ⟨HG.out.trans hG⟩
        clear hG
        rw [HC2.out]
        by_cases hpq : p.2 = q.2
        case pos =>
          rw [decide_eq_true hpq] at hse
          have hAL := HNX.out (HPE.out.2 (.inl hpq))
          have HAL := Keep.mk hAL
          clear hAL hpq
          go_wp2_with fail
          go_roundw
          case rel => exact ⟨x2, y2, ps, qs, rfl, rfl, HB1.out.1, HB1.out.2.1, HAL, HG⟩
          case measure => exact HB1.out.2.2
        case neg =>
          rw [decide_eq_false hpq] at hse
          go_wp2_with fail
          refine (odd_c X _).mono ?_
          rintro e wq ⟨rfl, rfl⟩
          rw [HS1.out.1]
          by_cases o1 : oddL p.2 = true
          case neg =>
            have hf := HNF.out (fun e => by rcases HPE.out.1 e with h | h; exact hpq h; exact o1 h.1)
            have o1f : oddL p.2 = false := by simpa using o1
            rw [o1f]
            subst hf
            clear o1 o1f
            go_wp2_with fail
            go_ret
            exact ⟨rfl, HG.out⟩
          case pos =>
          rw [o1]
          go_wp2_with fail
          refine (odd_c Y _).mono ?_
          rintro e wq ⟨rfl, rfl⟩
          rw [HS1.out.2]
          by_cases o2 : oddL q.2 = true
          case neg =>
            have hf := HNF.out (fun e => by rcases HPE.out.1 e with h | h; exact hpq h; exact o2 h.2)
            have o2f : oddL q.2 = false := by simpa using o2
            rw [o2f]
            subst hf
            clear o2 o2f
            go_wp2_with fail
            go_ret
            exact ⟨rfl, HG.out⟩
          case pos =>
          rw [o2]
          have HAL := Keep.mk (HNX.out (HPE.out.2 (.inr ⟨o1, o2⟩)))
          clear o1 o2
          go_wp2_with fail
          go_roundw
          case rel => exact ⟨x2, y2, ps, qs, rfl, rfl, HB1.out.1, HB1.out.2.1, HAL, HG⟩
          case measure => exact HB1.out.2.2
end Go.Proofs.YthhpbonacefmaaaDoor
