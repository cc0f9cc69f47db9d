/- the reference: Cut, Pad. -/
import Derived.Test.YthhpbonacefmaaaDoorC4
namespace Go.Proofs.YthhpbonacefmaaaDoor
open Go Go.RowKit

theorem flatle (ps : List (Nat × List UInt8)) (k : Nat) : (flat (ps.take k)).length ≤ (flat ps).length := (flat_prefix ps k).length_le
set_option maxRecDepth 100000 in
set_option maxHeartbeats 8000000 in
theorem rcut_c (s : ByteArray) (n : Int) (w : World) (hs : s.size ≤ 1048576) :
    Calls Tryd.prog 35 #[.string s, iv n] w fun e w' => e = .returned (.string (cutB s n)) ∧ w.grownBy w' none := by
  have hrn := rn_le s
  go_enter Tryd.func35, Tryd.ntmps35
  go_wp2_with fail
  refine (all_c s _ hs).mono ?_
  rintro e w1 ⟨v, rfl, hR, hG⟩
  obtain ⟨A, c, rfl, hS⟩ := hR.src
  have HG := Keep.mk hG
  have HS := Keep.mk hS
  clear hR hG hS
  obtain ⟨L, hL⟩ : ∃ L, pieces (sl s) = L := ⟨_, rfl⟩
  have hll : L.length ≤ 1048576 := by rw [← hL]; unfold rn at hrn; omega
  have HFL : Keep (∀ k, (flat (L.take k)).length ≤ 1048576) := ⟨fun k => by
    rw [← hL]
    have := flatle (pieces (sl s)) k
    rw [flat_pieces, sl_len] at this
    omega⟩
  have HSt : Keep (∀ k p, L[k]? = some p → mk (flat (L.take k)) ++ mk p.2 = mk (flat (L.take (k + 1)))) := ⟨fun k p hp => by
    apply sl_inj
    rw [sl_app, sl_mk, sl_mk, sl_mk, List.take_add_one, hp, flat_app]
    simp [flat]⟩
  have HRes : Keep (cutB s n = mk (flat (L.take n.toNat))) := ⟨by rw [← hL]; rfl⟩
  rw [hL] at HS ⊢
  clear hL hrn
  go_wp2_with fail
  go_loopw [6, 7] (fun v i w' => ∃ (k : Nat) (S : ByteArray), i = .int .i64 k ∧ v = .string S ∧ Keep (mk (flat (L.take k)) = S) ∧ k ≤ L.length ∧ k ≤ n.toNat ∧ w' = w1) (fun _ i _ => L.length - (intOf i).toNat)
  case atStart => exact ⟨0, ⟨#[]⟩, rfl, rfl, ⟨rfl⟩, Nat.zero_le _, Nat.zero_le _, rfl⟩
  case round =>
    obtain ⟨k, S, rfl, rfl, HSk, hk1, hk2, rfl⟩ := hrel
    by_cases hk : k = L.length
    · have e : cutB s n = S := by rw [HRes.out, ← HSk.out, List.take_of_length_le (by omega), List.take_of_length_le (by omega)]
      have HE := Keep.mk e
      subst hk
      clear e
      go_wp2_with fail
      go_ret
      rw [HE.out]
      exact ⟨rfl, HG.out⟩
    by_cases hn : n ≤ k
    · have e : cutB s n = S := by rw [HRes.out, ← HSk.out, show n.toNat = k by omega]
      have HE := Keep.mk e
      clear e
      have hkl : k < L.length := by omega
      go_wp2_with fail
      go_ret
      rw [HE.out]
      exact ⟨rfl, HG.out⟩
    · obtain ⟨p, hp⟩ : ∃ p, L[k]? = some p := ⟨_, List.getElem?_eq_getElem (by omega)⟩
      cases A with
      | none => have := HS.out.2.2.1 rfl; have := HS.out.2.1; omega
      | some ad =>
        obtain ⟨b, o, rfl, hcs⟩ := HS.out.2.2.2 ad rfl
        obtain ⟨c1, c2⟩ := hcs k p hp
        have hkl : k < L.length := by omega
        have hE := HSt.out k p hp
        rw [HSk.out] at hE
        have hz := HFL.out k
        have hz2 := HFL.out (k + 1)
        have e1 : S.size = (flat (L.take k)).length := by rw [← HSk.out, mk_size]
        have e2 : (S ++ mk p.2).size = (flat (L.take (k + 1))).length := by rw [hE, mk_size]
        rw [ByteArray.size_append] at e2
        have hadd := addS S (mk p.2) (by omega)
        have HE := Keep.mk hE
        clear hcs hp hk hE e1 e2 hz hz2 HSk
        obtain ⟨S1, hS1⟩ : ∃ T, mk p.2 = T := ⟨_, rfl⟩
        rw [hS1] at hadd HE c2
        clear hS1
        go_wp2_with fail
        go_roundw
        case rel => exact ⟨k + 1, _, by simp, rfl, ⟨HE.out.symm⟩, by omega, by omega, (by first | rfl | trivial)⟩
        case measure => simp [intOf]; omega

set_option maxRecDepth 100000 in
set_option maxHeartbeats 8000000 in
theorem rpad_c (s : ByteArray) (n : Int) (w : World) (hs : s.size ≤ 1048576) (hn1 : -9223372036854775808 ≤ n) (hn2 : n ≤ 9223372036854775807) :
    Calls Tryd.prog 36 #[.string s, iv n] w fun e w' => e = .returned (.string (padB s n)) ∧ w.grownBy w' none := by
  go_enter Tryd.func36, Tryd.ntmps36
  obtain ⟨X1, hX1⟩ : ∃ X : Int, max 0 n = X := ⟨_, rfl⟩
  obtain ⟨Kk, hKk⟩ : ∃ X : Int, min X1 4096 = X := ⟨_, rfl⟩
  have hb1 : 0 ≤ Kk ∧ Kk ≤ 4096 := by omega
  have HPK : Keep (pk n = Kk.toNat) := ⟨by unfold pk; omega⟩
  have E1 := Keep.mk hX1
  have E4 := Keep.mk hKk
  clear hX1 hKk
  go_upto_if 8 with fail
  go_cut [1] (fun sv wx => sv = iv X1 ∧ wx = w)
  case first =>
    by_cases h0 : n < 0
    · have e : X1 = 0 := by have := E1.out; omega
      subst e
      go_wp2_with fail
      go_meet
      exact ⟨rfl, rfl⟩
    · have e : X1 = n := by have := E1.out; omega
      subst e
      go_wp2_with fail
      go_meet
      exact ⟨rfl, rfl⟩
  case rest =>
  obtain ⟨rfl, rfl⟩ := hcut
  go_upto_if 10 with fail
  go_cut [1] (fun sv wx => sv = iv Kk ∧ wx = wc)
  case first =>
    by_cases h0 : 4096 < X1
    · have e : Kk = 4096 := by have := E4.out; omega
      subst e
      go_wp2_with fail
      go_meet
      exact ⟨rfl, rfl⟩
    · have e : Kk = X1 := by have := E4.out; omega
      subst e
      go_wp2_with fail
      go_meet
      exact ⟨rfl, rfl⟩
  case rest =>
  obtain ⟨rfl, rfl⟩ := hcut
  have HPD : Keep (sl (padB s n) = sl (cutB s Kk) ++ List.replicate (Kk.toNat - rn (cutB s Kk)) 32) := ⟨by
    rw [rn_cut]
    unfold padB padL cutB
    rw [sl_mk, sl_mk, HPK.out]; rfl⟩
  have hzC := cutB_size s Kk
  have hrc := rn_cut s Kk
  have hrC := rn_le (cutB s Kk)
  go_wp2_with fail
  refine (rcut_c s Kk _ hs).mono ?_
  rintro e w1 ⟨rfl, hG⟩
  obtain ⟨C, hC⟩ : ∃ C, cutB s Kk = C := ⟨_, rfl⟩
  rw [hC] at HPD hzC hrc hrC ⊢
  clear hC
  have HG : Keep (wc.grownBy w1 none) := ⟨hG⟩
  clear hG
  go_wp2_with fail
  refine (rrunes_c C _ (by omega)).mono ?_
  rintro e w2 ⟨rfl, hG⟩
  have HG2 : Keep (wc.grownBy w2 none) := ⟨HG.out.trans hG⟩
  have hrK : (rn C : Int) ≤ Kk := by omega
  clear hG HG hrc
  go_wp2_with fail
  go_loopw [5, 6] (fun v i w' => ∃ (k : Nat) (S : ByteArray), i = .int .i64 k ∧ v = .string S ∧ Keep (sl S = sl C ++ List.replicate (k - rn C) 32) ∧ rn C ≤ k ∧ (k : Int) ≤ Kk ∧ w' = w2) (fun _ i _ => (Kk - intOf i).toNat)
  case atStart => exact ⟨rn C, C, rfl, rfl, ⟨by simp⟩, Nat.le_refl _, hrK, rfl⟩
  case round =>
    obtain ⟨k, S, rfl, rfl, HS, hk1, hk2, rfl⟩ := hrel
    by_cases hk : (k : Int) = Kk
    · have e : padB s n = S := by
        apply sl_inj
        rw [HPD.out, HS.out, show Kk.toNat = k by omega]
      have HE := Keep.mk e
      have hk3 : ¬ (k : Int) < Kk := by omega
      clear e hk
      go_wp2_with fail
      go_ret
      rw [HE.out]
      exact ⟨rfl, HG2.out⟩
    · have hk3 : (k : Int) < Kk := by omega
      have hzS : S.size ≤ 1048576 + 4096 := by
        have := congrArg List.length HS.out
        rw [List.length_append, List.length_replicate, sl_len, sl_len] at this
        omega
      have hadd := addS S ⟨#[32]⟩ (by have : (⟨#[32]⟩ : ByteArray).size = 1 := rfl; omega)
      have HE : Keep (sl (S ++ ⟨#[32]⟩) = sl C ++ List.replicate (k + 1 - rn C) 32) := ⟨by
        rw [sl_app, HS.out, show k + 1 - rn C = (k - rn C) + 1 by omega, List.replicate_succ', List.append_assoc]
        rfl⟩
      clear HS hk
      go_wp2_with fail
      go_roundw
      case rel => exact ⟨k + 1, _, by simp, rfl, HE, by omega, by omega, (by first | rfl | trivial)⟩
      case measure => simp [intOf]; omega
end Go.Proofs.YthhpbonacefmaaaDoor
