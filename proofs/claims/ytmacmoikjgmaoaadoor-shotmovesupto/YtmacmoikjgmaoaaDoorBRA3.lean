/- the reference: Spawns, Print. -/
import Derived.Test.YtmacmoikjgmaoaaDoorBRA2
import Derived.Laws.Cover4
namespace Go.Proofs.YtmacmoikjgmaoaaDoor.Bo
open Go Go.RowKit

set_option maxRecDepth 100000 in
set_option maxHeartbeats 8000000 in
set_option maxRecDepth 100000 in
theorem rspawns_c (w : World) (v : Value) (L : Bo) (h : RB w v L) : Calls Tryd.prog 41 #[v] w fun e w' => ∃ u, e = .returned u ∧ Sep w w' [vrow u (spn L)] := by
  have HB := Keep.mk h
  have b1 : 3 ≤ wd L ∧ wd L ≤ 64 := h.sh.2.1
  have b2 : 3 ≤ L.length ∧ L.length ≤ 64 := h.sh.1
  obtain ⟨kb, kr, cr, rfl, c0, hr⟩ := h.o
  have HC := Keep.mk c0
  have HR := Keep.mk hr
  obtain ⟨p, hp⟩ : ∃ p, wd L = p := ⟨_, rfl⟩
  obtain ⟨n, hn⟩ : ∃ n, L.length = n := ⟨_, rfl⟩
  rw [hp] at b1 HR
  rw [hn] at b2 HC HR
  have HP := Keep.mk hp
  have HN := Keep.mk hn
  clear hr c0 h hp hn
  go_enter Tryd.func41, Tryd.ntmps41
  go_wp2_with fail
  go_loopw [3, 4] (fun u3 u wr => ∃ y : Nat, y ≤ n ∧ u = iv y ∧ Keep (Sep w wr [vrow u3 (spA L y)])) (fun _ u _ => (n - intOf u).toNat)
  case atStart => exact ⟨0, by omega, rfl, ⟨(Sep.nil w).nilV 24 2⟩⟩
  case round =>
    obtain ⟨y, hy, rfl, hR⟩ := hrel
    have c0 := hR.out.g.cell HC.out (by simp)
    by_cases hlt : (y : Int) < (n : Int)
    · have tY : (y : Int).toNat = y := by omega
      go_wp2_with fail
      clear c0
      go_loopw [3, 5] (fun u3 u ws => ∃ x : Nat, x ≤ p ∧ u = iv x ∧ Keep (Sep w ws [vrow u3 (spA L y ++ spR L y x)])) (fun _ u _ => (p - intOf u).toNat)
      case atStart => exact ⟨0, by omega, rfl, ⟨by simpa [spR] using hR.out⟩⟩
      case round =>
        clear hR
        obtain ⟨x, hx, rfl, hS⟩ := hrel
        obtain ⟨k, c, _, q1, q2⟩ := HR.out y (by omega)
        have c0 := hS.out.g.cell HC.out (by simp)
        have q1 := hS.out.g.cell q1 (by simp)
        by_cases hlu : (x : Int) < (p : Int)
        · have q3 := hS.out.g.cell (q2 x (by omega)) (by simp)
          have hxi : IntKind.i64.wrap ((x : Int) + 1) = ((x + 1 : Nat) : Int) := by rw [wi _ (by omega) (by omega)]; omega
          have tX : (x : Int).toNat = x := by omega
          obtain ⟨cv, hcv⟩ : ∃ cv, cel L x y = cv := ⟨_, rfl⟩
          rw [hcv] at q3
          have HCV := Keep.mk hcv
          clear hcv q2
          by_cases h83 : cv = 83
          · subst h83
            have m1 : IntKind.i64.wrap ((x : Int) * 524288) = (x : Int) * 524288 := wi _ (by omega) (by omega)
            have m2 : IntKind.i64.wrap ((x : Int) * 524288 + 262144) = mid x := wi _ (by omega) (by omega)
            have m3 : IntKind.i64.wrap ((y : Int) * 524288) = (y : Int) * 524288 := wi _ (by omega) (by omega)
            have m4 : IntKind.i64.wrap ((y : Int) * 524288 + 262144) = mid y := wi _ (by omega) (by omega)
            obtain ⟨g, kk, W', r1, r2⟩ := Sep.vec (mid x) (mid y) hS.out (by
              rw [List.length_append]
              have q1 := spA_len L y
              have q2 := spR_len L y x
              rw [HP.out] at q1
              have : y * p ≤ 64 * 64 := Nat.mul_le_mul (by omega) (by omega)
              omega)
            have HA := Keep.mk r1
            have HR2 : Keep (Sep w W' [vrow (.slice (some ⟨g, 0, none⟩) ((spA L y ++ spR L y x).length + 1) kk) (spA L y ++ spR L y (x + 1))]) := ⟨by
              rw [spR_succ, if_pos HCV.out, ← List.append_assoc]
              exact r2⟩
            have e : (spA L y ++ spR L y x).length = (spA L y).length + (spR L y x).length := List.length_append
            rw [e] at HR2
            clear r1 r2 hS e
            generalize mid x = mx at *
            generalize mid y = my at *
            go_wp2_with (at_builtin; refine wpList_append_run _ rfl (.tmp 38) (.tmp 46) 64 rfl _ _ rfl rfl HA.out ?_)
            go_roundw
            case rel => exact ⟨x + 1, by omega, rfl, HR2⟩
            case measure => simp [intOf]; omega
          · have HR2 : Keep (Sep w wr [vrow u3 (spA L y ++ spR L y (x + 1))]) := ⟨by
              rw [spR_succ, if_neg (by rw [HCV.out]; exact h83), List.append_nil]
              exact hS.out⟩
            clear hS
            go_wp2_with fail
            go_roundw
            case rel => exact ⟨x + 1, by omega, rfl, HR2⟩
            case measure => simp [intOf]; omega
        · have hyi : IntKind.i64.wrap ((y : Int) + 1) = ((y + 1 : Nat) : Int) := by rw [wi _ (by omega) (by omega)]; omega
          have HR2 : Keep (Sep w wr [vrow u3 (spA L (y + 1))]) := ⟨by
            have : x = wd L := by rw [HP.out]; omega
            rw [spA_succ, ← this]
            exact hS.out⟩
          clear hS
          go_wp2_with fail
          go_roundw
          case rel => exact ⟨y + 1, by omega, rfl, HR2⟩
          case measure => simp [intOf]; omega
    · have HR2 : Keep (Sep w wr [vrow u3 (spn L)]) := ⟨by
        have : y = L.length := by rw [HN.out]; omega
        rw [spn, ← this]
        exact hR.out⟩
      go_wp2_with fail
      go_ret
      exact ⟨_, rfl, HR2.out⟩
set_option maxRecDepth 100000 in
theorem under9 : Tryd.prog.underlying 9 = some .string := by kernel_rfl
set_option maxRecDepth 100000 in
theorem under21 : Tryd.prog.underlying 21 = some (.int .i32) := by kernel_rfl
set_option maxRecDepth 100000 in
theorem underT70 : Tryd.prog.underlying 78 = some (.slice 21) := by kernel_rfl
set_option maxRecDepth 100000 in
theorem addS (a b : List UInt8) (h : a.length + b.length ≤ 9223372036854775807) (W : World) : (Op.stringOp .add ⟨a.toArray⟩ ⟨b.toArray⟩).run Tryd.prog W = .ok (.string ⟨(a ++ b).toArray⟩) W := by
  have e : (⟨a.toArray⟩ : ByteArray) ++ ⟨b.toArray⟩ = ⟨(a ++ b).toArray⟩ := by
    apply ByteArray.ext
    simp
  simp only [Op.stringOp]
  rw [if_neg (by
    have : IntKind.i64.max = 9223372036854775807 := by decide
    have h1 : (⟨a.toArray⟩ : ByteArray).size = a.length := by show a.toArray.size = _; simp
    have h2 : (⟨b.toArray⟩ : ByteArray).size = b.length := by show b.toArray.size = _; simp
    rw [h1, h2]
    omega), e]
  rfl
set_option maxRecDepth 100000 in
theorem rune_bytes {c : Int} (h : okc c) : runesBytes [c] = ⟨[c.toNat.toUInt8].toArray⟩ := by
  unfold okc at h
  rcases h with rfl | rfl | rfl | rfl | rfl <;> decide +kernel
set_option maxRecDepth 100000 in
theorem rune_cvt (w : World) (k x cap : Nat) (c : Int) (h : okc c) (hc : w.cell? ⟨k, x, none⟩ = some (.int .i32 c)) : (convert 78 9 (.slice (some ⟨k, x, none⟩) 1 cap)).run Tryd.prog w = .ok (.string ⟨[c.toNat.toUInt8].toArray⟩) w := by
  rw [run_convert_runes (P := Tryd.prog) w 78 9 21 ⟨k, x, none⟩ 1 cap [c] (by simp) underT70 under21 under9 (fun j hj => by
    have : j = 0 := by simp at hj; omega
    subst this
    rw [Addr.add_mid]
    exact hc)]
  rw [show [c].take 1 = [c] from rfl, rune_bytes h]
end Go.Proofs.YtmacmoikjgmaoaaDoor.Bo
