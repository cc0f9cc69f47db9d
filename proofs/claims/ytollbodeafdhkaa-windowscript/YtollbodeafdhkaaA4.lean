/- the laws' alive. -/
import Derived.Test.YtollbodeafdhkaaA3
namespace Go.Proofs.Ytollbodeafdhkaa
open Go Go.RowKit
theorem mark_at {w0 w : World} {b h B : Nat} {M : List Nat} (m : MW w0 w b h B M) (s c h' B' : Nat) (hs : s < 18446744073709551616) (e1 : chk h B s = c) (e2 : mkH h B s = h') (e3 : mkB h B s = B') :
    Calls Try.prog 9 #[.pointer (some ⟨b, 0, none⟩), uv s] w fun e w' => e = .returned (.int .i64 (c : Nat)) ∧ (∃ M', MW w0 w' b h' B' M') := by
  subst e1 e2 e3
  refine (my_mark m s hs).mono ?_
  rintro e w' ⟨rfl, k, g⟩
  exact ⟨rfl, _, k⟩
theorem check_at (h B s c : Nat) (w : World) (hh : h < 18446744073709551616) (hB : B < 18446744073709551616) (hs : s < 18446744073709551616) (e1 : chk h B s = c) :
    Calls Try.prog 11 #[.agg #[uv h, uv B], uv s] w fun e w' => e = .returned (.int .i64 (c : Nat)) ∧ w.grownBy w' none := by
  subst e1
  exact check_c h B s w hh hB hs
set_option maxRecDepth 100000 in
set_option maxHeartbeats 8000000 in
theorem alive_c (w : World) : Calls Try.prog 7 #[] w fun e w' => e = .returned (.bool true) ∧ w.grownBy w' none := by
  have HM : Keep (∃ M, MW w (w.alloc (.cells #[.int .u64 0, .int .u64 0] 26)) w.heap.size 0 0 M) := ⟨_, MW.new (World.grownBy.refl _ _)⟩
  go_enter Try.func7, Try.ntmps7
  go_wp2_with fail
  generalize w.alloc (.cells #[.int .u64 0, .int .u64 0] 26) = w1 at *
  generalize w.heap.size = b at *
  refine (check_at 0 0 0 90 _ (by omega) (by omega) (by omega) (by decide)).mono ?_
  rintro e w2 ⟨rfl, g⟩
  replace HM : Keep (∃ M, MW w w2 b 0 0 M) := ⟨HM.out.imp fun _ q => q.kept g⟩
  clear g
  have c0 : w2.cell? ⟨b, 0, none⟩ = some (.int .u64 0) := by
    obtain ⟨M, hM⟩ := HM.out
    exact hM.k.has.cellv 0 _ rfl
  have c1 : w2.cell? ⟨b, 1, none⟩ = some (.int .u64 0) := by
    obtain ⟨M, hM⟩ := HM.out
    exact hM.k.has.cellv 1 _ rfl
  go_wp2_with fail
  clear c0 c1
  refine (num_c _ _).mono ?_
  rintro e w3 ⟨rfl, rfl⟩
  have c0 : w3.cell? ⟨b, 0, none⟩ = some (.int .u64 0) := by
    obtain ⟨M, hM⟩ := HM.out
    exact hM.k.has.cellv 0 _ rfl
  have c1 : w3.cell? ⟨b, 1, none⟩ = some (.int .u64 0) := by
    obtain ⟨M, hM⟩ := HM.out
    exact hM.k.has.cellv 1 _ rfl
  go_wp2_with fail
  clear c0 c1
  refine (check_at 0 0 64 0 _ (by omega) (by omega) (by omega) (by decide)).mono ?_
  rintro e w4 ⟨rfl, g⟩
  replace HM : Keep (∃ M, MW w w4 b 0 0 M) := ⟨HM.out.imp fun _ q => q.kept g⟩
  clear g
  have c0 : w4.cell? ⟨b, 0, none⟩ = some (.int .u64 0) := by
    obtain ⟨M, hM⟩ := HM.out
    exact hM.k.has.cellv 0 _ rfl
  have c1 : w4.cell? ⟨b, 1, none⟩ = some (.int .u64 0) := by
    obtain ⟨M, hM⟩ := HM.out
    exact hM.k.has.cellv 1 _ rfl
  go_wp2_with fail
  clear c0 c1
  refine (num_c _ _).mono ?_
  rintro e w5 ⟨rfl, rfl⟩
  have c0 : w5.cell? ⟨b, 0, none⟩ = some (.int .u64 0) := by
    obtain ⟨M, hM⟩ := HM.out
    exact hM.k.has.cellv 0 _ rfl
  have c1 : w5.cell? ⟨b, 1, none⟩ = some (.int .u64 0) := by
    obtain ⟨M, hM⟩ := HM.out
    exact hM.k.has.cellv 1 _ rfl
  go_wp2_with fail
  clear c0 c1
  refine (check_at 0 0 65 92 _ (by omega) (by omega) (by omega) (by decide)).mono ?_
  rintro e w6 ⟨rfl, g⟩
  replace HM : Keep (∃ M, MW w w6 b 0 0 M) := ⟨HM.out.imp fun _ q => q.kept g⟩
  clear g
  have c0 : w6.cell? ⟨b, 0, none⟩ = some (.int .u64 0) := by
    obtain ⟨M, hM⟩ := HM.out
    exact hM.k.has.cellv 0 _ rfl
  have c1 : w6.cell? ⟨b, 1, none⟩ = some (.int .u64 0) := by
    obtain ⟨M, hM⟩ := HM.out
    exact hM.k.has.cellv 1 _ rfl
  go_wp2_with fail
  clear c0 c1
  refine (num_c _ _).mono ?_
  rintro e w7 ⟨rfl, rfl⟩
  have c0 : w7.cell? ⟨b, 0, none⟩ = some (.int .u64 0) := by
    obtain ⟨M, hM⟩ := HM.out
    exact hM.k.has.cellv 0 _ rfl
  have c1 : w7.cell? ⟨b, 1, none⟩ = some (.int .u64 0) := by
    obtain ⟨M, hM⟩ := HM.out
    exact hM.k.has.cellv 1 _ rfl
  go_wp2_with fail
  clear c0 c1
  obtain ⟨M, hM⟩ := HM.out
  refine (mark_at hM 3 0 3 1 (by omega) (by decide) (by decide) (by decide)).mono ?_
  rintro e w8 ⟨rfl, hM2⟩
  replace HM : Keep (∃ M, MW w w8 b 3 1 M) := ⟨hM2⟩
  clear hM2 hM M
  have c0 : w8.cell? ⟨b, 0, none⟩ = some (.int .u64 3) := by
    obtain ⟨M, hM⟩ := HM.out
    exact hM.k.has.cellv 0 _ rfl
  have c1 : w8.cell? ⟨b, 1, none⟩ = some (.int .u64 1) := by
    obtain ⟨M, hM⟩ := HM.out
    exact hM.k.has.cellv 1 _ rfl
  go_wp2_with fail
  clear c0 c1
  refine (num_c _ _).mono ?_
  rintro e w9 ⟨rfl, rfl⟩
  have c0 : w9.cell? ⟨b, 0, none⟩ = some (.int .u64 3) := by
    obtain ⟨M, hM⟩ := HM.out
    exact hM.k.has.cellv 0 _ rfl
  have c1 : w9.cell? ⟨b, 1, none⟩ = some (.int .u64 1) := by
    obtain ⟨M, hM⟩ := HM.out
    exact hM.k.has.cellv 1 _ rfl
  go_wp2_with fail
  clear c0 c1
  obtain ⟨M, hM⟩ := HM.out
  refine (mark_at hM 3 91 3 1 (by omega) (by decide) (by decide) (by decide)).mono ?_
  rintro e w10 ⟨rfl, hM2⟩
  replace HM : Keep (∃ M, MW w w10 b 3 1 M) := ⟨hM2⟩
  clear hM2 hM M
  have c0 : w10.cell? ⟨b, 0, none⟩ = some (.int .u64 3) := by
    obtain ⟨M, hM⟩ := HM.out
    exact hM.k.has.cellv 0 _ rfl
  have c1 : w10.cell? ⟨b, 1, none⟩ = some (.int .u64 1) := by
    obtain ⟨M, hM⟩ := HM.out
    exact hM.k.has.cellv 1 _ rfl
  go_wp2_with fail
  clear c0 c1
  refine (num_c _ _).mono ?_
  rintro e w11 ⟨rfl, rfl⟩
  have c0 : w11.cell? ⟨b, 0, none⟩ = some (.int .u64 3) := by
    obtain ⟨M, hM⟩ := HM.out
    exact hM.k.has.cellv 0 _ rfl
  have c1 : w11.cell? ⟨b, 1, none⟩ = some (.int .u64 1) := by
    obtain ⟨M, hM⟩ := HM.out
    exact hM.k.has.cellv 1 _ rfl
  go_wp2_with fail
  clear c0 c1
  obtain ⟨M, hM⟩ := HM.out
  refine (mark_at hM 1 0 3 5 (by omega) (by decide) (by decide) (by decide)).mono ?_
  rintro e w12 ⟨rfl, hM2⟩
  replace HM : Keep (∃ M, MW w w12 b 3 5 M) := ⟨hM2⟩
  clear hM2 hM M
  have c0 : w12.cell? ⟨b, 0, none⟩ = some (.int .u64 3) := by
    obtain ⟨M, hM⟩ := HM.out
    exact hM.k.has.cellv 0 _ rfl
  have c1 : w12.cell? ⟨b, 1, none⟩ = some (.int .u64 5) := by
    obtain ⟨M, hM⟩ := HM.out
    exact hM.k.has.cellv 1 _ rfl
  go_wp2_with fail
  clear c0 c1
  refine (num_c _ _).mono ?_
  rintro e w13 ⟨rfl, rfl⟩
  have c0 : w13.cell? ⟨b, 0, none⟩ = some (.int .u64 3) := by
    obtain ⟨M, hM⟩ := HM.out
    exact hM.k.has.cellv 0 _ rfl
  have c1 : w13.cell? ⟨b, 1, none⟩ = some (.int .u64 5) := by
    obtain ⟨M, hM⟩ := HM.out
    exact hM.k.has.cellv 1 _ rfl
  go_wp2_with fail
  clear c0 c1
  refine (high_c 3 5 _).mono ?_
  rintro e w14 ⟨rfl, g⟩
  replace HM : Keep (∃ M, MW w w14 b 3 5 M) := ⟨HM.out.imp fun _ q => q.kept g⟩
  clear g
  have c0 : w14.cell? ⟨b, 0, none⟩ = some (.int .u64 3) := by
    obtain ⟨M, hM⟩ := HM.out
    exact hM.k.has.cellv 0 _ rfl
  have c1 : w14.cell? ⟨b, 1, none⟩ = some (.int .u64 5) := by
    obtain ⟨M, hM⟩ := HM.out
    exact hM.k.has.cellv 1 _ rfl
  go_wp2_with fail
  clear c0 c1
  refine (bits_c 3 5 _).mono ?_
  rintro e w15 ⟨rfl, g⟩
  replace HM : Keep (∃ M, MW w w15 b 3 5 M) := ⟨HM.out.imp fun _ q => q.kept g⟩
  clear g
  have c0 : w15.cell? ⟨b, 0, none⟩ = some (.int .u64 3) := by
    obtain ⟨M, hM⟩ := HM.out
    exact hM.k.has.cellv 0 _ rfl
  have c1 : w15.cell? ⟨b, 1, none⟩ = some (.int .u64 5) := by
    obtain ⟨M, hM⟩ := HM.out
    exact hM.k.has.cellv 1 _ rfl
  go_wp2_with fail
  clear c0 c1
  obtain ⟨M, hM⟩ := HM.out
  refine (mark_at hM 67 0 67 1 (by omega) (by decide) (by decide) (by decide)).mono ?_
  rintro e w16 ⟨rfl, hM2⟩
  replace HM : Keep (∃ M, MW w w16 b 67 1 M) := ⟨hM2⟩
  clear hM2 hM M
  have c0 : w16.cell? ⟨b, 0, none⟩ = some (.int .u64 67) := by
    obtain ⟨M, hM⟩ := HM.out
    exact hM.k.has.cellv 0 _ rfl
  have c1 : w16.cell? ⟨b, 1, none⟩ = some (.int .u64 1) := by
    obtain ⟨M, hM⟩ := HM.out
    exact hM.k.has.cellv 1 _ rfl
  go_wp2_with fail
  clear c0 c1
  refine (num_c _ _).mono ?_
  rintro e w17 ⟨rfl, rfl⟩
  have c0 : w17.cell? ⟨b, 0, none⟩ = some (.int .u64 67) := by
    obtain ⟨M, hM⟩ := HM.out
    exact hM.k.has.cellv 0 _ rfl
  have c1 : w17.cell? ⟨b, 1, none⟩ = some (.int .u64 1) := by
    obtain ⟨M, hM⟩ := HM.out
    exact hM.k.has.cellv 1 _ rfl
  go_wp2_with fail
  clear c0 c1
  refine (bits_c 67 1 _).mono ?_
  rintro e w18 ⟨rfl, g⟩
  replace HM : Keep (∃ M, MW w w18 b 67 1 M) := ⟨HM.out.imp fun _ q => q.kept g⟩
  clear g
  have c0 : w18.cell? ⟨b, 0, none⟩ = some (.int .u64 67) := by
    obtain ⟨M, hM⟩ := HM.out
    exact hM.k.has.cellv 0 _ rfl
  have c1 : w18.cell? ⟨b, 1, none⟩ = some (.int .u64 1) := by
    obtain ⟨M, hM⟩ := HM.out
    exact hM.k.has.cellv 1 _ rfl
  go_wp2_with fail
  clear c0 c1
  refine (check_at 67 1 3 90 _ (by omega) (by omega) (by omega) (by decide)).mono ?_
  rintro e w19 ⟨rfl, g⟩
  replace HM : Keep (∃ M, MW w w19 b 67 1 M) := ⟨HM.out.imp fun _ q => q.kept g⟩
  clear g
  have c0 : w19.cell? ⟨b, 0, none⟩ = some (.int .u64 67) := by
    obtain ⟨M, hM⟩ := HM.out
    exact hM.k.has.cellv 0 _ rfl
  have c1 : w19.cell? ⟨b, 1, none⟩ = some (.int .u64 1) := by
    obtain ⟨M, hM⟩ := HM.out
    exact hM.k.has.cellv 1 _ rfl
  go_wp2_with fail
  clear c0 c1
  refine (num_c _ _).mono ?_
  rintro e w20 ⟨rfl, rfl⟩
  have c0 : w20.cell? ⟨b, 0, none⟩ = some (.int .u64 67) := by
    obtain ⟨M, hM⟩ := HM.out
    exact hM.k.has.cellv 0 _ rfl
  have c1 : w20.cell? ⟨b, 1, none⟩ = some (.int .u64 1) := by
    obtain ⟨M, hM⟩ := HM.out
    exact hM.k.has.cellv 1 _ rfl
  go_wp2_with fail
  clear c0 c1
  obtain ⟨M, hM⟩ := HM.out
  refine (mark_at hM 4 0 67 9223372036854775809 (by omega) (by decide) (by decide) (by decide)).mono ?_
  rintro e w21 ⟨rfl, hM2⟩
  replace HM : Keep (∃ M, MW w w21 b 67 9223372036854775809 M) := ⟨hM2⟩
  clear hM2 hM M
  have c0 : w21.cell? ⟨b, 0, none⟩ = some (.int .u64 67) := by
    obtain ⟨M, hM⟩ := HM.out
    exact hM.k.has.cellv 0 _ rfl
  have c1 : w21.cell? ⟨b, 1, none⟩ = some (.int .u64 9223372036854775809) := by
    obtain ⟨M, hM⟩ := HM.out
    exact hM.k.has.cellv 1 _ rfl
  go_wp2_with fail
  clear c0 c1
  refine (num_c _ _).mono ?_
  rintro e w22 ⟨rfl, rfl⟩
  have c0 : w22.cell? ⟨b, 0, none⟩ = some (.int .u64 67) := by
    obtain ⟨M, hM⟩ := HM.out
    exact hM.k.has.cellv 0 _ rfl
  have c1 : w22.cell? ⟨b, 1, none⟩ = some (.int .u64 9223372036854775809) := by
    obtain ⟨M, hM⟩ := HM.out
    exact hM.k.has.cellv 1 _ rfl
  go_wp2_with fail
  clear c0 c1
  refine (bits_c 67 9223372036854775809 _).mono ?_
  rintro e w23 ⟨rfl, g⟩
  replace HM : Keep (∃ M, MW w w23 b 67 9223372036854775809 M) := ⟨HM.out.imp fun _ q => q.kept g⟩
  clear g
  have c0 : w23.cell? ⟨b, 0, none⟩ = some (.int .u64 67) := by
    obtain ⟨M, hM⟩ := HM.out
    exact hM.k.has.cellv 0 _ rfl
  have c1 : w23.cell? ⟨b, 1, none⟩ = some (.int .u64 9223372036854775809) := by
    obtain ⟨M, hM⟩ := HM.out
    exact hM.k.has.cellv 1 _ rfl
  go_wp2_with fail
  go_ret
  obtain ⟨M, hM⟩ := HM.out
  exact ⟨rfl, hM.g⟩
end Go.Proofs.Ytollbodeafdhkaa
