/- PackReads: the walk. -/
import Derived.Test.YtkddfnglonofoabT1
namespace Go.Proofs.Ytkddfnglonofoab
open Go Go.RowKit

theorem Mine.newQ {w W : World} {l : List Ob} (h : Mine w W l) (s : ByteArray) : Mine w (W.alloc (.cells #[.string s, .int .i64 0] 29)) (qO W.heap.size (sl s, 0) :: l) :=
  ⟨h.g.trans (World.grownBy_alloc _ _ _), h.s.add h.g.size (World.grownBy_alloc _ _ _) ⟨⟨s, Has.newA W _ 29, fun _ => rfl⟩, fun e => absurd rfl e⟩ (fun i hi => by rw [show i = W.heap.size from hi]; exact Nat.le_refl _)⟩
set_option maxRecDepth 100000 in
set_option maxHeartbeats 8000000 in
theorem reads_walk (s : ByteArray) (a : Option Addr) (n c : Nat) (xs : List OpT) (w : World) (hx : Scr w a n xs) (hn : n * 48 ≤ 140737488355328) :
    Calls Try.prog 3 #[.string s, .slice a n c] w fun e w' => e = .returned (.bool true) ∧ w.grownBy w' none := by
  have HX : Keep (Scr w a n xs) := ⟨hx⟩
  clear hx
  go_enter Try.func3, Try.ntmps3
  go_wp2_with fail
  refine (alive_c w).mono ?_
  rintro e w1 ⟨rfl, g1⟩
  have HG := Keep.mk g1
  clear g1
  go_wp2_with fail
  refine (newR_c s w1).mono ?_
  rintro e w2 ⟨rb, B, rfl, a2, g2, hb2, hB2⟩
  have H2 : Keep (Mine w w2 [rO rb B (sl s, 0)]) := ⟨Mine.newR ⟨HG.out, Sep.nil _ _⟩ a2 g2 hb2 hB2⟩
  obtain ⟨w3, hw3⟩ : ∃ q, w2.alloc (.cells #[.string s, .int .i64 0] 29) = q := ⟨_, rfl⟩
  obtain ⟨qb, hqb⟩ : ∃ q, w2.heap.size = q := ⟨_, rfl⟩
  have H3 : Keep (Mine w w3 ([] ++ [rO rb B (sl s, 0), qO qb (sl s, 0)])) := ⟨by
    have := H2.out.newQ s
    rw [hw3, hqb] at this
    exact this.perm (List.Perm.swap _ _ _)⟩
  clear a2 g2 hb2 hB2 H2 HG
  go_wp2_with fail
  go_loopw [7] (fun t w' => ∃ i : Nat, i ≤ n ∧ t = .int .i64 i ∧ Keep (∃ st, Mine w w' ([] ++ [rO rb B st, qO qb st]))) (fun t _ => n - (intOf t).toNat)
  case atStart => exact ⟨0, Nat.zero_le _, rfl, ⟨_, H3.out⟩⟩
  case round =>
    obtain ⟨i, hi, rfl, HI⟩ := hrel
    clear H3
    by_cases hlt : i < n
    · have hlt2 : (i : Int) < n := by omega
      obtain ⟨Bx, kx, o, rfl, hoi, hok, hat⟩ := HX.out.get hlt
      obtain ⟨st, HM⟩ := HI.out
      have HM1 := Keep.mk HM
      obtain ⟨q0, q1, q2, q3, q4⟩ := hat.kept HM.g
      have hwi : IntKind.i64.wrap ((i : Int) + 1) = ((i + 1 : Nat) : Int) := by rw [wi _ (by omega) (by omega)]; omega
      clear HI HM hat hok hoi
      go_wp2_with fail
      refine (takes_c rb B qb st o w wr HM1.out).mono ?_
      rintro e w9 ⟨rfl, st9, d9⟩
      have HM9 := Keep.mk d9
      clear d9 HM1
      go_wp2_with fail
      refine (rLeft_c rb B st9 w9 (Mine.r (A := []) HM9.out)).mono ?_
      rintro e wa ⟨rfl, hwa⟩
      subst hwa
      go_wp2_with fail
      refine (qLeft_c qb st9 _ (Mine.q (A := [_]) HM9.out)).mono ?_
      rintro e wb ⟨rfl, hwb⟩
      subst hwb
      have HF : Keep (∃ st, Mine w wb ([] ++ [rO rb B st, qO qb st])) := ⟨st9, HM9.out⟩
      clear HM9
      go_wp2_with fail
      exact ⟨⟨i + 1, by omega, by simp, HF⟩, by simp only [intOf]; omega⟩
    · have hlt2 : ¬ ((i : Int) < n) := by omega
      obtain ⟨st, HM⟩ := HI.out
      have HM1 := Keep.mk HM
      clear HI HM
      go_wp2_with fail
      refine (rDone_c rb B st wr (Mine.r (A := []) HM1.out)).mono ?_
      rintro e wa ⟨rfl, hwa⟩
      subst hwa
      go_wp2_with fail
      refine (qDone_c qb st _ (Mine.q (A := [_]) HM1.out)).mono ?_
      rintro e wb ⟨rfl, hwb⟩
      subst hwb
      go_wp2_with fail
      refine (rRest_c rb B st _ (Mine.r (A := []) HM1.out)).mono ?_
      rintro e wd ⟨rfl, dd⟩
      have HM2 := Keep.mk (Mine.rdid (A := []) HM1.out dd)
      clear dd HM1
      go_wp2_with fail
      refine (qRest_c qb st _ (Mine.q (A := [_]) HM2.out)).mono ?_
      rintro e we ⟨rfl, de⟩
      have HM3 := Keep.mk (Mine.qdid (A := [_]) HM2.out de)
      clear de HM2
      go_wp2_with fail
      refine (rDone_c rb B _ we (Mine.r (A := []) HM3.out)).mono ?_
      rintro e wa ⟨rfl, hwa⟩
      subst hwa
      go_wp2_with fail
      refine (qDone_c qb _ _ (Mine.q (A := [_]) HM3.out)).mono ?_
      rintro e wb ⟨rfl, hwb⟩
      subst hwb
      go_wp2_with fail
      go_ret
      exact ⟨by simp, HM3.out.g⟩
end Go.Proofs.Ytkddfnglonofoab
