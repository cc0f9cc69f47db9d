/- RingLimits' walk. -/
import Derived.Test.YtflglflggeaokaaB2
namespace Go.Proofs.Ytflglflggeaokaa
open Go Go.RowKit

def upto (n : Nat) : List Int := (List.range n).map (fun (k : Nat) => (k : Int))
theorem upto_len (n : Nat) : (upto n).length = n := by simp [upto]
theorem upto_succ (n : Nat) : upto n ++ [(n : Int)] = upto (n + 1) := by simp [upto, List.range_succ]
theorem upto_at (n i : Nat) (h : i < n) : (upto n)[i]? = some (i : Int) := by simp [upto, h]
theorem tmod50 (x : Int) : -50 < x.tmod 50 ∧ x.tmod 50 < 50 := by
  have h1 := Int.tmod_lt_of_pos x (show (0 : Int) < 50 by decide)
  have h2 := Int.tmod_lt_of_pos (-x) (show (0 : Int) < 50 by decide)
  rw [Int.neg_tmod] at h2
  omega

set_option maxRecDepth 100000 in
set_option maxHeartbeats 8000000 in
theorem limits_walk (size turn i : Int) (w : World) (hi1 : -9223372036854775808 ≤ i) (hi2 : i ≤ 9223372036854775807) :
    Calls Try.prog 6 #[.int .i64 size, .int .i64 turn, .int .i64 i] w fun e w' => e = .returned (.bool true) ∧ w.grownBy w' none := by
  go_enter Try.func6, Try.ntmps6
  go_wp2_with fail
  refine (alive_c w).mono ?_
  rintro e w1 ⟨rfl, g1⟩
  have G1 : Keep (w.grownBy w1 none) := ⟨g1⟩
  clear g1
  by_cases hsz : 1 ≤ size ∧ size ≤ 4096
  · obtain ⟨sz, rfl⟩ : ∃ sz : Nat, size = sz := ⟨size.toNat, by omega⟩
    have hs1 : ¬ ((sz : Int) < 1) := by omega
    have hs2 : ¬ (4096 < (sz : Int)) := by omega
    have hz1 : 1 ≤ sz := by omega
    have hz2 : sz ≤ 4096 := by omega
    clear hsz
    go_wp2_with fail
    refine (my_new w sz w1 G1.out hz1 hz2).mono ?_
    rintro e w2 ⟨rfl, m2, _, _⟩
    have M2 : Keep (Mine w w2 w1.heap.size sz []) := ⟨m2⟩
    clear m2 G1
    generalize w1.heap.size = rb at *
    obtain ⟨t, ht⟩ : ∃ t, turn.tmod 50 = t := ⟨_, rfl⟩
    have ht1 : -50 < t ∧ t < 50 := by rw [← ht]; exact tmod50 turn
    have hw1 : IntKind.i64.wrap t = t := wi _ (by omega) (by omega)
    have hw2 : IntKind.i64.wrap (-t) = -t := wi _ (by omega) (by omega)
    by_cases htn : t < 0
    · go_wp2_with ((go_at_call 10; refine (num_c _ _).mono ?_; rintro e w' ⟨rfl, hw⟩; subst w'))
      go_loopw [10] (fun u wr => ∃ k : Int, 0 ≤ k ∧ k ≤ -t ∧ u = .int .i64 k ∧ Keep (Mine w wr rb sz [])) (fun u _ => (-t - (intOf u)).toNat)
      case atStart => exact ⟨0, by omega, by omega, rfl, M2⟩
      case round =>
        obtain ⟨k, hk0, hk1, rfl, hF⟩ := hrel
        by_cases hlt : k < -t
        · have hwk : IntKind.i64.wrap (k + 1) = k + 1 := wi _ (by omega) (by omega)
          go_wp2_with fail
          refine (my_push hF.out k hz1).mono ?_
          rintro e w3 ⟨rfl, m3⟩
          have M3 : Keep (Mine w w3 rb sz [k]) := ⟨m3⟩
          clear m3
          go_wp2_with fail
          refine (my_pop M3.out).mono ?_
          rintro e w4 ⟨rfl, m4⟩
          have M4 : Keep (Mine w w4 rb sz []) := ⟨m4⟩
          clear m4 M3
          go_wp2_with fail
          exact ⟨⟨k + 1, by omega, by omega, rfl, M4⟩, by simp only [intOf]; omega⟩
        · clear M2
          rename World => wo
          go_wp2_with fail
          go_loopw [11] (fun u wr => ∃ k : Int, 0 ≤ k ∧ k ≤ sz ∧ u = .int .i64 k ∧ Keep (Mine w wr rb sz (upto k.toNat))) (fun u _ => (sz - (intOf u)).toNat)
          case atStart => exact ⟨0, by omega, by omega, rfl, hF⟩
          case round =>
            obtain ⟨j, hj0, hj1, rfl, hR⟩ := hrel
            by_cases hjs : j < sz
            · obtain ⟨jn, rfl⟩ : ∃ jn : Nat, j = jn := ⟨j.toNat, by omega⟩
              have hwk : IntKind.i64.wrap ((jn : Int) + 1) = jn + 1 := wi _ (by omega) (by omega)
              have hwk1 : IntKind.i64.wrap ((sz : Int) - (jn : Int)) = sz - jn := wi _ (by omega) (by omega)
              have hwk2 : IntKind.i64.wrap ((sz : Int) - (jn : Int) - 1) = sz - jn - 1 := wi _ (by omega) (by omega)
              have hR2 := hR
              rw [Int.toNat_natCast] at hR2
              go_wp2_with fail
              refine (my_push hR2.out (jn : Int) (by rw [upto_len]; omega)).mono ?_
              rintro e w3 ⟨rfl, m3⟩
              rw [upto_succ] at m3
              have M3 : Keep (Mine w w3 rb sz (upto (jn + 1))) := ⟨m3⟩
              clear m3 hR2
              have hlen : ((sz : Int) - ((upto (jn + 1)).length : Nat)) = (sz : Int) - jn - 1 := by rw [upto_len]; omega
              go_wp2_with ((go_at_call 10; refine (num_c _ _).mono ?_; rintro e w' ⟨rfl, hw⟩; subst w'))
              refine (my_room M3.out).mono ?_
              rintro e w4 ⟨rfl, n, hw4⟩
              rw [hlen]
              have M4 : Keep (Mine w w4 rb sz (upto (jn + 1))) := ⟨by rw [hw4]; exact M3.out.drewN n⟩
              clear hw4 hlen M3
              go_wp2_with fail
              refine ⟨⟨(jn : Int) + 1, by omega, by omega, rfl, ?_⟩, by simp only [intOf]; omega⟩
              rw [show ((jn : Int) + 1).toNat = jn + 1 by omega]
              exact M4
            · have hjz : j = sz := by omega
              subst hjz
              have hR2 := hR
              rw [Int.toNat_natCast] at hR2
              clear hR hF
              go_wp2_with fail
              by_cases hin : 0 ≤ i ∧ i < sz
              · have hA : Calls Try.prog 22 #[.pointer (some ⟨rb, 0, none⟩), .int .i64 i] wr fun e w' => e = .returned (.tuple #[.int .i64 i, .bool true]) ∧ Mine w w' rb sz (upto sz) := by
                  obtain ⟨v, h1, h2⟩ := hR2.out.r
                  have := at_yes rb v sz (upto sz) i.toNat i wr h1 (by rw [upto_at _ _ (by omega)]; congr 1; omega)
                  rw [Int.toNat_of_nonneg hin.1] at this
                  refine this.mono ?_
                  rintro e w' ⟨rfl, n, rfl⟩
                  exact ⟨rfl, hR2.out.drewN n⟩
                obtain ⟨hin1, hin2⟩ := hin
                refine hA.mono ?_
                rintro e w5 ⟨rfl, m5⟩
                have M5 : Keep (Mine w w5 rb sz (upto sz)) := ⟨m5⟩
                clear m5 hA hR2
                go_wp2_with fail
                refine (my_full M5.out 5 (upto_len _)).mono ?_
                rintro e w6 ⟨rfl, m6⟩
                have M6 : Keep (Mine w w6 rb sz (upto sz)) := ⟨m6⟩
                clear m6 M5
                go_wp2_with ((go_at_call 10; refine (num_c _ _).mono ?_; rintro e w' ⟨rfl, hw⟩; subst w'))
                refine (my_take M6.out 4611686018427387904 sz (by rw [upto_len]; omega)).mono ?_
                rintro e w7 ⟨rfl, m7, h7⟩
                rw [List.drop_of_length_le (by rw [upto_len]; exact Nat.le_refl _)] at m7
                rw [List.take_of_length_le (by rw [upto_len]; exact Nat.le_refl _)] at h7
                have M7 : Keep (Mine w w7 rb sz []) := ⟨m7⟩
                have c0 : w7.cell? ⟨w6.heap.size, 0, none⟩ = some (.int .i64 0) := h7.cellv 0 _ (by rw [List.getElem?_map, upto_at _ _ (by omega)]; rfl)
                have c1 : w7.cell? ⟨w6.heap.size, sz - 1, none⟩ = some (.int .i64 ((sz : Int) - 1)) := h7.cellv (sz - 1) _ (by rw [List.getElem?_map, upto_at _ _ (by omega)]; simp only [Option.map_some]; congr 2; omega)
                have hz3 : ((sz : Int) - 1).toNat = sz - 1 := by omega
                have hz4 : (0 : Int) ≤ (sz : Int) - 1 := by omega
                have hz5 : (sz : Int) - 1 < sz := by omega
                have hz6 : IntKind.i64.wrap ((sz : Int) - 1) = sz - 1 := wi _ (by omega) (by omega)
                have hz7 : (0 : Int) < (sz : Int) := by omega
                clear m7 h7 M6
                go_wp2_with fail
                refine (my_pop_no M7.out).mono ?_
                rintro e w' ⟨rfl, hw⟩
                subst w'
                go_wp2_with fail
                refine (my_take M7.out 3 0 rfl).mono ?_
                rintro e w8 ⟨rfl, m8, _⟩
                have M8 : Keep (w.grownBy w8 none) := ⟨m8.g⟩
                clear m8 M7
                go_wp2_with fail
                go_ret
                exact ⟨rfl, M8.out⟩
              · have hA : Calls Try.prog 22 #[.pointer (some ⟨rb, 0, none⟩), .int .i64 i] wr fun e w' => e = .returned (.tuple #[.int .i64 0, .bool false]) ∧ Mine w w' rb sz (upto sz) := by
                  obtain ⟨v, h1, h2⟩ := hR2.out.r
                  have := at_no rb v sz (upto sz) i wr h1 (by rw [upto_len]; exact hin)
                  refine this.mono ?_
                  rintro e w' ⟨rfl, rfl⟩
                  exact ⟨rfl, hR2.out⟩
                by_cases hin0 : i < 0
                · refine hA.mono ?_
                  rintro e w5 ⟨rfl, m5⟩
                  have M5 : Keep (Mine w w5 rb sz (upto sz)) := ⟨m5⟩
                  clear m5 hA hR2
                  go_wp2_with fail
                  refine (my_full M5.out 5 (upto_len _)).mono ?_
                  rintro e w6 ⟨rfl, m6⟩
                  have M6 : Keep (Mine w w6 rb sz (upto sz)) := ⟨m6⟩
                  clear m6 M5
                  go_wp2_with ((go_at_call 10; refine (num_c _ _).mono ?_; rintro e w' ⟨rfl, hw⟩; subst w'))
                  refine (my_take M6.out 4611686018427387904 sz (by rw [upto_len]; omega)).mono ?_
                  rintro e w7 ⟨rfl, m7, h7⟩
                  rw [List.drop_of_length_le (by rw [upto_len]; exact Nat.le_refl _)] at m7
                  rw [List.take_of_length_le (by rw [upto_len]; exact Nat.le_refl _)] at h7
                  have M7 : Keep (Mine w w7 rb sz []) := ⟨m7⟩
                  have c0 : w7.cell? ⟨w6.heap.size, 0, none⟩ = some (.int .i64 0) := h7.cellv 0 _ (by rw [List.getElem?_map, upto_at _ _ (by omega)]; rfl)
                  have c1 : w7.cell? ⟨w6.heap.size, sz - 1, none⟩ = some (.int .i64 ((sz : Int) - 1)) := h7.cellv (sz - 1) _ (by rw [List.getElem?_map, upto_at _ _ (by omega)]; simp only [Option.map_some]; congr 2; omega)
                  have hz3 : ((sz : Int) - 1).toNat = sz - 1 := by omega
                  have hz4 : (0 : Int) ≤ (sz : Int) - 1 := by omega
                  have hz5 : (sz : Int) - 1 < sz := by omega
                  have hz6 : IntKind.i64.wrap ((sz : Int) - 1) = sz - 1 := wi _ (by omega) (by omega)
                  have hz7 : (0 : Int) < (sz : Int) := by omega
                  clear m7 h7 M6
                  go_wp2_with fail
                  refine (my_pop_no M7.out).mono ?_
                  rintro e w' ⟨rfl, hw⟩
                  subst w'
                  go_wp2_with fail
                  refine (my_take M7.out 3 0 rfl).mono ?_
                  rintro e w8 ⟨rfl, m8, _⟩
                  have M8 : Keep (w.grownBy w8 none) := ⟨m8.g⟩
                  clear m8 M7
                  go_wp2_with fail
                  go_ret
                  exact ⟨rfl, M8.out⟩
                · have hin3 : (sz : Int) ≤ i := by omega
                  refine hA.mono ?_
                  rintro e w5 ⟨rfl, m5⟩
                  have M5 : Keep (Mine w w5 rb sz (upto sz)) := ⟨m5⟩
                  clear m5 hA hR2
                  go_wp2_with fail
                  refine (my_full M5.out 5 (upto_len _)).mono ?_
                  rintro e w6 ⟨rfl, m6⟩
                  have M6 : Keep (Mine w w6 rb sz (upto sz)) := ⟨m6⟩
                  clear m6 M5
                  go_wp2_with ((go_at_call 10; refine (num_c _ _).mono ?_; rintro e w' ⟨rfl, hw⟩; subst w'))
                  refine (my_take M6.out 4611686018427387904 sz (by rw [upto_len]; omega)).mono ?_
                  rintro e w7 ⟨rfl, m7, h7⟩
                  rw [List.drop_of_length_le (by rw [upto_len]; exact Nat.le_refl _)] at m7
                  rw [List.take_of_length_le (by rw [upto_len]; exact Nat.le_refl _)] at h7
                  have M7 : Keep (Mine w w7 rb sz []) := ⟨m7⟩
                  have c0 : w7.cell? ⟨w6.heap.size, 0, none⟩ = some (.int .i64 0) := h7.cellv 0 _ (by rw [List.getElem?_map, upto_at _ _ (by omega)]; rfl)
                  have c1 : w7.cell? ⟨w6.heap.size, sz - 1, none⟩ = some (.int .i64 ((sz : Int) - 1)) := h7.cellv (sz - 1) _ (by rw [List.getElem?_map, upto_at _ _ (by omega)]; simp only [Option.map_some]; congr 2; omega)
                  have hz3 : ((sz : Int) - 1).toNat = sz - 1 := by omega
                  have hz4 : (0 : Int) ≤ (sz : Int) - 1 := by omega
                  have hz5 : (sz : Int) - 1 < sz := by omega
                  have hz6 : IntKind.i64.wrap ((sz : Int) - 1) = sz - 1 := wi _ (by omega) (by omega)
                  have hz7 : (0 : Int) < (sz : Int) := by omega
                  clear m7 h7 M6
                  go_wp2_with fail
                  refine (my_pop_no M7.out).mono ?_
                  rintro e w' ⟨rfl, hw⟩
                  subst w'
                  go_wp2_with fail
                  refine (my_take M7.out 3 0 rfl).mono ?_
                  rintro e w8 ⟨rfl, m8, _⟩
                  have M8 : Keep (w.grownBy w8 none) := ⟨m8.g⟩
                  clear m8 M7
                  go_wp2_with fail
                  go_ret
                  exact ⟨rfl, M8.out⟩
    · go_wp2_with ((go_at_call 10; refine (num_c _ _).mono ?_; rintro e w' ⟨rfl, hw⟩; subst w'))
      go_loopw [10] (fun u wr => ∃ k : Int, 0 ≤ k ∧ k ≤ t ∧ u = .int .i64 k ∧ Keep (Mine w wr rb sz [])) (fun u _ => (t - (intOf u)).toNat)
      case atStart => exact ⟨0, by omega, by omega, rfl, M2⟩
      case round =>
        obtain ⟨k, hk0, hk1, rfl, hF⟩ := hrel
        by_cases hlt : k < t
        · have hwk : IntKind.i64.wrap (k + 1) = k + 1 := wi _ (by omega) (by omega)
          go_wp2_with fail
          refine (my_push hF.out k hz1).mono ?_
          rintro e w3 ⟨rfl, m3⟩
          have M3 : Keep (Mine w w3 rb sz [k]) := ⟨m3⟩
          clear m3
          go_wp2_with fail
          refine (my_pop M3.out).mono ?_
          rintro e w4 ⟨rfl, m4⟩
          have M4 : Keep (Mine w w4 rb sz []) := ⟨m4⟩
          clear m4 M3
          go_wp2_with fail
          exact ⟨⟨k + 1, by omega, by omega, rfl, M4⟩, by simp only [intOf]; omega⟩
        · clear M2
          rename World => wo
          go_wp2_with fail
          go_loopw [11] (fun u wr => ∃ k : Int, 0 ≤ k ∧ k ≤ sz ∧ u = .int .i64 k ∧ Keep (Mine w wr rb sz (upto k.toNat))) (fun u _ => (sz - (intOf u)).toNat)
          case atStart => exact ⟨0, by omega, by omega, rfl, hF⟩
          case round =>
            obtain ⟨j, hj0, hj1, rfl, hR⟩ := hrel
            by_cases hjs : j < sz
            · obtain ⟨jn, rfl⟩ : ∃ jn : Nat, j = jn := ⟨j.toNat, by omega⟩
              have hwk : IntKind.i64.wrap ((jn : Int) + 1) = jn + 1 := wi _ (by omega) (by omega)
              have hwk1 : IntKind.i64.wrap ((sz : Int) - (jn : Int)) = sz - jn := wi _ (by omega) (by omega)
              have hwk2 : IntKind.i64.wrap ((sz : Int) - (jn : Int) - 1) = sz - jn - 1 := wi _ (by omega) (by omega)
              have hR2 := hR
              rw [Int.toNat_natCast] at hR2
              go_wp2_with fail
              refine (my_push hR2.out (jn : Int) (by rw [upto_len]; omega)).mono ?_
              rintro e w3 ⟨rfl, m3⟩
              rw [upto_succ] at m3
              have M3 : Keep (Mine w w3 rb sz (upto (jn + 1))) := ⟨m3⟩
              clear m3 hR2
              have hlen : ((sz : Int) - ((upto (jn + 1)).length : Nat)) = (sz : Int) - jn - 1 := by rw [upto_len]; omega
              go_wp2_with ((go_at_call 10; refine (num_c _ _).mono ?_; rintro e w' ⟨rfl, hw⟩; subst w'))
              refine (my_room M3.out).mono ?_
              rintro e w4 ⟨rfl, n, hw4⟩
              rw [hlen]
              have M4 : Keep (Mine w w4 rb sz (upto (jn + 1))) := ⟨by rw [hw4]; exact M3.out.drewN n⟩
              clear hw4 hlen M3
              go_wp2_with fail
              refine ⟨⟨(jn : Int) + 1, by omega, by omega, rfl, ?_⟩, by simp only [intOf]; omega⟩
              rw [show ((jn : Int) + 1).toNat = jn + 1 by omega]
              exact M4
            · have hjz : j = sz := by omega
              subst hjz
              have hR2 := hR
              rw [Int.toNat_natCast] at hR2
              clear hR hF
              go_wp2_with fail
              by_cases hin : 0 ≤ i ∧ i < sz
              · have hA : Calls Try.prog 22 #[.pointer (some ⟨rb, 0, none⟩), .int .i64 i] wr fun e w' => e = .returned (.tuple #[.int .i64 i, .bool true]) ∧ Mine w w' rb sz (upto sz) := by
                  obtain ⟨v, h1, h2⟩ := hR2.out.r
                  have := at_yes rb v sz (upto sz) i.toNat i wr h1 (by rw [upto_at _ _ (by omega)]; congr 1; omega)
                  rw [Int.toNat_of_nonneg hin.1] at this
                  refine this.mono ?_
                  rintro e w' ⟨rfl, n, rfl⟩
                  exact ⟨rfl, hR2.out.drewN n⟩
                obtain ⟨hin1, hin2⟩ := hin
                refine hA.mono ?_
                rintro e w5 ⟨rfl, m5⟩
                have M5 : Keep (Mine w w5 rb sz (upto sz)) := ⟨m5⟩
                clear m5 hA hR2
                go_wp2_with fail
                refine (my_full M5.out 5 (upto_len _)).mono ?_
                rintro e w6 ⟨rfl, m6⟩
                have M6 : Keep (Mine w w6 rb sz (upto sz)) := ⟨m6⟩
                clear m6 M5
                go_wp2_with ((go_at_call 10; refine (num_c _ _).mono ?_; rintro e w' ⟨rfl, hw⟩; subst w'))
                refine (my_take M6.out 4611686018427387904 sz (by rw [upto_len]; omega)).mono ?_
                rintro e w7 ⟨rfl, m7, h7⟩
                rw [List.drop_of_length_le (by rw [upto_len]; exact Nat.le_refl _)] at m7
                rw [List.take_of_length_le (by rw [upto_len]; exact Nat.le_refl _)] at h7
                have M7 : Keep (Mine w w7 rb sz []) := ⟨m7⟩
                have c0 : w7.cell? ⟨w6.heap.size, 0, none⟩ = some (.int .i64 0) := h7.cellv 0 _ (by rw [List.getElem?_map, upto_at _ _ (by omega)]; rfl)
                have c1 : w7.cell? ⟨w6.heap.size, sz - 1, none⟩ = some (.int .i64 ((sz : Int) - 1)) := h7.cellv (sz - 1) _ (by rw [List.getElem?_map, upto_at _ _ (by omega)]; simp only [Option.map_some]; congr 2; omega)
                have hz3 : ((sz : Int) - 1).toNat = sz - 1 := by omega
                have hz4 : (0 : Int) ≤ (sz : Int) - 1 := by omega
                have hz5 : (sz : Int) - 1 < sz := by omega
                have hz6 : IntKind.i64.wrap ((sz : Int) - 1) = sz - 1 := wi _ (by omega) (by omega)
                have hz7 : (0 : Int) < (sz : Int) := by omega
                clear m7 h7 M6
                go_wp2_with fail
                refine (my_pop_no M7.out).mono ?_
                rintro e w' ⟨rfl, hw⟩
                subst w'
                go_wp2_with fail
                refine (my_take M7.out 3 0 rfl).mono ?_
                rintro e w8 ⟨rfl, m8, _⟩
                have M8 : Keep (w.grownBy w8 none) := ⟨m8.g⟩
                clear m8 M7
                go_wp2_with fail
                go_ret
                exact ⟨rfl, M8.out⟩
              · have hA : Calls Try.prog 22 #[.pointer (some ⟨rb, 0, none⟩), .int .i64 i] wr fun e w' => e = .returned (.tuple #[.int .i64 0, .bool false]) ∧ Mine w w' rb sz (upto sz) := by
                  obtain ⟨v, h1, h2⟩ := hR2.out.r
                  have := at_no rb v sz (upto sz) i wr h1 (by rw [upto_len]; exact hin)
                  refine this.mono ?_
                  rintro e w' ⟨rfl, rfl⟩
                  exact ⟨rfl, hR2.out⟩
                by_cases hin0 : i < 0
                · refine hA.mono ?_
                  rintro e w5 ⟨rfl, m5⟩
                  have M5 : Keep (Mine w w5 rb sz (upto sz)) := ⟨m5⟩
                  clear m5 hA hR2
                  go_wp2_with fail
                  refine (my_full M5.out 5 (upto_len _)).mono ?_
                  rintro e w6 ⟨rfl, m6⟩
                  have M6 : Keep (Mine w w6 rb sz (upto sz)) := ⟨m6⟩
                  clear m6 M5
                  go_wp2_with ((go_at_call 10; refine (num_c _ _).mono ?_; rintro e w' ⟨rfl, hw⟩; subst w'))
                  refine (my_take M6.out 4611686018427387904 sz (by rw [upto_len]; omega)).mono ?_
                  rintro e w7 ⟨rfl, m7, h7⟩
                  rw [List.drop_of_length_le (by rw [upto_len]; exact Nat.le_refl _)] at m7
                  rw [List.take_of_length_le (by rw [upto_len]; exact Nat.le_refl _)] at h7
                  have M7 : Keep (Mine w w7 rb sz []) := ⟨m7⟩
                  have c0 : w7.cell? ⟨w6.heap.size, 0, none⟩ = some (.int .i64 0) := h7.cellv 0 _ (by rw [List.getElem?_map, upto_at _ _ (by omega)]; rfl)
                  have c1 : w7.cell? ⟨w6.heap.size, sz - 1, none⟩ = some (.int .i64 ((sz : Int) - 1)) := h7.cellv (sz - 1) _ (by rw [List.getElem?_map, upto_at _ _ (by omega)]; simp only [Option.map_some]; congr 2; omega)
                  have hz3 : ((sz : Int) - 1).toNat = sz - 1 := by omega
                  have hz4 : (0 : Int) ≤ (sz : Int) - 1 := by omega
                  have hz5 : (sz : Int) - 1 < sz := by omega
                  have hz6 : IntKind.i64.wrap ((sz : Int) - 1) = sz - 1 := wi _ (by omega) (by omega)
                  have hz7 : (0 : Int) < (sz : Int) := by omega
                  clear m7 h7 M6
                  go_wp2_with fail
                  refine (my_pop_no M7.out).mono ?_
                  rintro e w' ⟨rfl, hw⟩
                  subst w'
                  go_wp2_with fail
                  refine (my_take M7.out 3 0 rfl).mono ?_
                  rintro e w8 ⟨rfl, m8, _⟩
                  have M8 : Keep (w.grownBy w8 none) := ⟨m8.g⟩
                  clear m8 M7
                  go_wp2_with fail
                  go_ret
                  exact ⟨rfl, M8.out⟩
                · have hin3 : (sz : Int) ≤ i := by omega
                  refine hA.mono ?_
                  rintro e w5 ⟨rfl, m5⟩
                  have M5 : Keep (Mine w w5 rb sz (upto sz)) := ⟨m5⟩
                  clear m5 hA hR2
                  go_wp2_with fail
                  refine (my_full M5.out 5 (upto_len _)).mono ?_
                  rintro e w6 ⟨rfl, m6⟩
                  have M6 : Keep (Mine w w6 rb sz (upto sz)) := ⟨m6⟩
                  clear m6 M5
                  go_wp2_with ((go_at_call 10; refine (num_c _ _).mono ?_; rintro e w' ⟨rfl, hw⟩; subst w'))
                  refine (my_take M6.out 4611686018427387904 sz (by rw [upto_len]; omega)).mono ?_
                  rintro e w7 ⟨rfl, m7, h7⟩
                  rw [List.drop_of_length_le (by rw [upto_len]; exact Nat.le_refl _)] at m7
                  rw [List.take_of_length_le (by rw [upto_len]; exact Nat.le_refl _)] at h7
                  have M7 : Keep (Mine w w7 rb sz []) := ⟨m7⟩
                  have c0 : w7.cell? ⟨w6.heap.size, 0, none⟩ = some (.int .i64 0) := h7.cellv 0 _ (by rw [List.getElem?_map, upto_at _ _ (by omega)]; rfl)
                  have c1 : w7.cell? ⟨w6.heap.size, sz - 1, none⟩ = some (.int .i64 ((sz : Int) - 1)) := h7.cellv (sz - 1) _ (by rw [List.getElem?_map, upto_at _ _ (by omega)]; simp only [Option.map_some]; congr 2; omega)
                  have hz3 : ((sz : Int) - 1).toNat = sz - 1 := by omega
                  have hz4 : (0 : Int) ≤ (sz : Int) - 1 := by omega
                  have hz5 : (sz : Int) - 1 < sz := by omega
                  have hz6 : IntKind.i64.wrap ((sz : Int) - 1) = sz - 1 := wi _ (by omega) (by omega)
                  have hz7 : (0 : Int) < (sz : Int) := by omega
                  clear m7 h7 M6
                  go_wp2_with fail
                  refine (my_pop_no M7.out).mono ?_
                  rintro e w' ⟨rfl, hw⟩
                  subst w'
                  go_wp2_with fail
                  refine (my_take M7.out 3 0 rfl).mono ?_
                  rintro e w8 ⟨rfl, m8, _⟩
                  have M8 : Keep (w.grownBy w8 none) := ⟨m8.g⟩
                  clear m8 M7
                  go_wp2_with fail
                  go_ret
                  exact ⟨rfl, M8.out⟩
  · go_wp2_with fail
    refine (new_no size w1 hsz).mono ?_
    rintro e w' ⟨rfl, hw⟩
    subst w'
    by_cases hs0 : size < 1
    · go_wp2_with ((go_at_call 10; refine (num_c _ _).mono ?_; rintro e w' ⟨rfl, hw⟩; subst w'))
      go_ret
      exact ⟨rfl, G1.out⟩
    · have hs1 : 4096 < size := by omega
      go_wp2_with ((go_at_call 10; refine (num_c _ _).mono ?_; rintro e w' ⟨rfl, hw⟩; subst w'))
      go_ret
      exact ⟨rfl, G1.out⟩
end Go.Proofs.Ytflglflggeaokaa
