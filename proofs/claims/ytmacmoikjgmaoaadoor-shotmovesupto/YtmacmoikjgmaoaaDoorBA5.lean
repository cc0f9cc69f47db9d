/- board: Spawns, Print. -/
import Derived.Test.YtmacmoikjgmaoaaDoorBA2
import Derived.Test.YtmacmoikjgmaoaaDoorBA4
namespace Go.Proofs.YtmacmoikjgmaoaaDoor.Bo
open Go Go.RowKit

/-- places as they lie in memory -/
def vcs (l : List (Int × Int)) : List Value := l.flatMap fun p => [iv p.1, iv p.2]
set_option maxRecDepth 100000 in
theorem vcs_app (a b : List (Int × Int)) : vcs (a ++ b) = vcs a ++ vcs b := by simp [vcs]
set_option maxRecDepth 100000 in
theorem vcs_len (l : List (Int × Int)) : (vcs l).length = l.length * 2 := by
  induction l with
  | nil => rfl
  | cons p r ih => simp only [vcs, List.flatMap_cons, List.length_append, List.length_cons, List.length_nil] at ih ⊢; omega
set_option maxRecDepth 100000 in
theorem infoT32b : ∃ i, Tryd.prog.info? 24 = some i ∧ i.size = 2 ∧ i.bytes = 16 ∧ i.zero = some (.agg #[iv 0, iv 0]) := by
  have h : (Tryd.prog.info? 24).map (fun i => (i.size, i.bytes, i.zero)) = some (2, 16, some (.agg #[iv 0, iv 0])) := by kernel_rfl
  cases hq : Tryd.prog.info? 24 with
  | none => simp [hq] at h
  | some i =>
    simp only [hq, Option.map_some, Option.some.injEq, Prod.mk.injEq] at h
    exact ⟨i, rfl, h.1, h.2.1, h.2.2⟩
set_option maxRecDepth 100000 in
theorem underT35 : Tryd.prog.underlying 64 = some (.slice 24) := by kernel_rfl
abbrev vrow (v : Value) (A : List (Int × Int)) : As := rowV 24 2 v A.length (vcs A)
set_option maxRecDepth 100000 in
theorem Sep.vec {w0 W : World} {l : List As} {v : Value} {A : List (Int × Int)} (x y : Int) (h : Sep w0 W (vrow v A :: l)) (hn : A.length ≤ 1000000) :
    ∃ g k W', (Builtin.append_ #[64, 64] 64 #[v, .slice (some ⟨W.heap.size, 0, none⟩) 1 1]).run Tryd.prog (W.alloc (.cells #[iv x, iv y] 24)) = .ok (.slice (some ⟨g, 0, none⟩) (A.length + 1) k) W' ∧ Sep w0 W' (vrow (.slice (some ⟨g, 0, none⟩) (A.length + 1) k) (A ++ [(x, y)]) :: l) := by
  obtain ⟨i, i1, i2, i3, i4⟩ := infoT32b
  obtain ⟨g, k, W', r1, r2⟩ := Sep.app underT35 i1 i4 i2 i3 rfl (by decide) h [iv x, iv y] rfl (fun u hu => by simp at hu; rcases hu with rfl | rfl <;> rfl) (by omega) (by decide)
  refine ⟨g, k, W', r1, ?_⟩
  rw [vrow, List.length_append, vcs_app]
  exact r2
set_option maxRecDepth 100000 in
set_option maxHeartbeats 8000000 in
set_option maxRecDepth 100000 in
theorem spawns_c (w : World) (v : Value) (L : Bo) (h : Bd w v L) : Calls Tryd.prog 27 #[v] w fun e w' => ∃ u, e = .returned u ∧ Sep w w' [vrow u (spn L)] := by
  obtain ⟨kb, kr, cr, rfl, c0, c1, c2, hr⟩ := h.o
  have b1 : 3 ≤ wd L ∧ wd L ≤ 64 := h.sh.2.1
  have b2 : 3 ≤ L.length ∧ L.length ≤ 64 := h.sh.1
  have HB := Keep.mk h
  obtain ⟨p, hp⟩ : ∃ p, wd L = p := ⟨_, rfl⟩
  obtain ⟨n, hn⟩ : ∃ n, L.length = n := ⟨_, rfl⟩
  rw [hp] at c0 b1
  rw [hn] at c1 b2
  have HP := Keep.mk hp
  have HN := Keep.mk hn
  have HC := Keep.mk (show w.cell? ⟨kb, 0, none⟩ = some (iv p) ∧ w.cell? ⟨kb, 1, none⟩ = some (iv n) from ⟨c0, c1⟩)
  clear hr c2 c0 h hp hn
  go_enter Tryd.func27, Tryd.ntmps27
  go_wp2_with fail
  clear c1
  go_loopw [3, 10] (fun u3 u wr => ∃ y : Nat, y ≤ n ∧ u = iv y ∧ Keep (Sep w wr [vrow u3 (spA L y)])) (fun _ u _ => (n - intOf u).toNat)
  case atStart => exact ⟨0, by omega, rfl, ⟨(Sep.nil w).nilV 24 2⟩⟩
  case round =>
    obtain ⟨y, hy, rfl, hR⟩ := hrel
    by_cases hlt : (y : Int) < (n : Int)
    · have c0 := hR.out.g.cell HC.out.1 (by simp)
      go_wp2_with fail
      clear c0
      go_loopw [3, 17] (fun u3 u ws => ∃ x : Nat, x ≤ p ∧ u = iv x ∧ Keep (Sep w ws [vrow u3 (spA L y ++ spR L y x)])) (fun _ u _ => (p - intOf u).toNat)
      case atStart => exact ⟨0, by omega, rfl, ⟨by simpa [spR] using hR.out⟩⟩
      case round =>
        clear hR
        rename_i u3' _ _
        obtain ⟨x, hx, rfl, hS⟩ := hrel
        by_cases hlu : (x : Int) < (p : Int)
        · have hC := cell_c _ _ _ (HB.out.kept hS.out.g) (x : Int) (y : Int)
          have hxi : IntKind.i64.wrap ((x : Int) + 1) = ((x + 1 : Nat) : Int) := by rw [wi _ (by omega) (by omega)]; omega
          obtain ⟨cv, hcv⟩ : ∃ cv, cel L x y = cv := ⟨_, rfl⟩
          rw [hcv] at hC
          have HCV := Keep.mk hcv
          clear hcv
          by_cases h83 : cv = 83
          · subst h83
            have HM1 := Keep.mk (fun W => middle_c W x (by omega))
            have HM2 := Keep.mk (fun W => middle_c W y (by omega))
            obtain ⟨g, k, W', r1, r2⟩ := Sep.vec (mid x) (mid y) hS.out (by
              rw [List.length_append]
              have q1 := spA_len L y
              have q2 := spR_len L y x
              rw [HP.out] at q1
              have : y * p ≤ 64 * 64 := Nat.mul_le_mul (by omega) (by omega)
              omega)
            have HA := Keep.mk r1
            have HR : Keep (Sep w W' [vrow (.slice (some ⟨g, 0, none⟩) ((spA L y ++ spR L y x).length + 1) k) (spA L y ++ spR L y (x + 1))]) := ⟨by
              rw [spR_succ, if_pos HCV.out, ← List.append_assoc]
              exact r2⟩
            have e : (spA L y ++ spR L y x).length = (spA L y).length + (spR L y x).length := List.length_append
            rw [e] at HR
            clear r1 r2 hS e
            go_wp2_with fail
            refine hC.mono ?_
            rintro e w1 ⟨rfl, rfl⟩
            clear hC
            go_wp2_with fail
            refine (HM1.out _).mono ?_
            rintro e w1 ⟨rfl, rfl⟩
            go_wp2_with fail
            refine (HM2.out _).mono ?_
            rintro e w1 ⟨rfl, rfl⟩
            go_wp2_with (at_builtin; refine wpList_append_run _ rfl (.tmp 25) (.tmp 31) 64 rfl _ _ rfl rfl HA.out ?_)
            go_roundw
            case rel => exact ⟨x + 1, by omega, rfl, HR⟩
            case measure => simp [intOf]; omega
          · have HR : Keep (Sep w wr [vrow u3 (spA L y ++ spR L y (x + 1))]) := ⟨by
              rw [spR_succ, if_neg (by rw [HCV.out]; exact h83), List.append_nil]
              exact hS.out⟩
            clear hS
            go_wp2_with fail
            refine hC.mono ?_
            rintro e w1 ⟨rfl, rfl⟩
            clear hC
            go_wp2_with fail
            go_roundw
            case rel => exact ⟨x + 1, by omega, rfl, HR⟩
            case measure => simp [intOf]; omega
        · have hyi : IntKind.i64.wrap ((y : Int) + 1) = ((y + 1 : Nat) : Int) := by rw [wi _ (by omega) (by omega)]; omega
          have HR : Keep (Sep w wr [vrow u3 (spA L (y + 1))]) := ⟨by
            have : x = wd L := by rw [HP.out]; omega
            rw [spA_succ, ← this]
            exact hS.out⟩
          clear hS
          go_wp2_with fail
          go_roundw
          case rel => exact ⟨y + 1, by omega, rfl, HR⟩
          case measure => simp [intOf]; omega
    · have HR : Keep (Sep w wr [vrow u3 (spn L)]) := ⟨by
        have : y = L.length := by rw [HN.out]; omega
        rw [spn, ← this]
        exact hR.out⟩
      go_wp2_with fail
      go_ret
      exact ⟨_, rfl, HR.out⟩
set_option maxRecDepth 100000 in
theorem Sep.rowLo {w0 W : World} {l : List As} {e : TypeId} {s : Nat} {v : Value} {n : Nat} {xs : List Value} (h : Sep w0 W (rowV e s v n xs :: l)) : W.ownsRow w0.heap.size e s v n xs := by
  obtain ⟨F, ⟨h1, rfl⟩, h2, _⟩ := h.use
  obtain ⟨q1, q2⟩ := h1
  refine ⟨q1, q2.imp id ?_⟩
  rintro ⟨g, cap, cur, rfl, r1, r2, r3⟩
  exact ⟨g, cap, cur, rfl, h2 g rfl, r2, r3⟩
set_option maxRecDepth 100000 in
theorem bc_app (a b : List UInt8) : Lib.byteCells (a ++ b) = Lib.byteCells a ++ Lib.byteCells b := Lib.byteCells_append ..
end Go.Proofs.YtmacmoikjgmaoaaDoor.Bo
