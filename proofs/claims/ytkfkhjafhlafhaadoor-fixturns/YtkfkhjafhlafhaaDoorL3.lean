/- FixTurns -/
import Derived.Test.YtkfkhjafhlafhaaDoorL0
import Derived.Test.YtkfkhjafhlafhaaDoorS2
namespace Go.Proofs.YtkfkhjafhlafhaaDoor
open Go Go.RowKit

/-- what follows from the table, at each of the 256 headings -/
structure Tn (i : Int) : Prop where
  a : sinZ (i + 128) = -sinZ i
  b : sinZ (128 - i) = sinZ i
  c : sinZ (-i + 64) = sinZ (i + 64)
  d1 : sinZ i * sinZ i + sinZ (i + 64) * sinZ (i + 64) - 4294967296 ≤ 131072
  d2 : -131072 ≤ sinZ i * sinZ i + sinZ (i + 64) * sinZ (i + 64) - 4294967296
  s1 : sinZ i ≤ 65536
  s2 : -65536 ≤ sinZ i
  c1 : sinZ (i + 64) ≤ 65536
  c2 : -65536 ≤ sinZ (i + 64)
def tnB (i : Int) : Bool := sinZ (i + 128) == -sinZ i && (sinZ (128 - i) == sinZ i && (sinZ (-i + 64) == sinZ (i + 64) && (decide (sinZ i * sinZ i + sinZ (i + 64) * sinZ (i + 64) - 4294967296 ≤ 131072) && (decide (-131072 ≤ sinZ i * sinZ i + sinZ (i + 64) * sinZ (i + 64) - 4294967296) && (decide (sinZ i ≤ 65536) && (decide (-65536 ≤ sinZ i) && (decide (sinZ (i + 64) ≤ 65536) && decide (-65536 ≤ sinZ (i + 64)))))))))
theorem tn_all : ∀ n : Fin 256, tnB (n.val : Int) = true := by decide +kernel
theorem tn_of (i : Int) (h0 : 0 ≤ i) (h1 : i < 256) : Tn i := by
  have h := tn_all ⟨i.toNat, by omega⟩
  have e : ((i.toNat : Nat) : Int) = i := by omega
  simp only [e] at h
  unfold tnB at h
  simp only [Bool.and_eq_true, beq_iff_eq, decide_eq_true_eq] at h
  obtain ⟨a, b, c, d1, d2, s1, s2, c1, c2⟩ := h
  exact ⟨a, b, c, d1, d2, s1, s2, c1, c2⟩

set_option maxHeartbeats 4000000 in
theorem turns_any (h : Int) (hI : In h) (w : World) (hk : Kc w) :
    Calls Tryd.prog 5 #[.int .i64 h] w fun e w' => e = .returned (.bool true) ∧ w.grownBy w' none := by
  have c0 := fixed_c w hk
  have a1 := fun W (hk : Kc W) => sin_c h W hk
  have a2 := fun W => rsin_c h hI W
  have a3 := fun W (hk : Kc W) => cos_c h W hk
  have a4 := fun W => rcos_c h W
  generalize sinZ h = x at *
  generalize sinZ (h + 64) = y at *
  go_enter Tryd.func5, Tryd.ntmps5
  go_wp2_with fail
  refine c0.mono ?_
  rintro e w1 ⟨rfl, hg⟩
  have HG1 := Keep.mk hg
  have hk1 := hk.kept hg
  clear hg hk
  go_wp2_with fail
  refine (a1 _ hk1).mono ?_
  rintro e w' ⟨rfl, hw⟩; rw [hw]
  go_wp2_with fail
  refine (a2 _).mono ?_
  rintro e w2 ⟨rfl, hg⟩
  have HG2 := Keep.mk (HG1.out.trans hg)
  have hk2 := hk1.kept hg
  clear hg
  go_wp2_with fail
  refine (a3 _ hk2).mono ?_
  rintro e w' ⟨rfl, hw⟩; rw [hw]
  go_wp2_with fail
  refine (a4 _).mono ?_
  rintro e w3 ⟨rfl, hg⟩
  have HG3 := Keep.mk (HG2.out.trans hg)
  have hk3 := hk2.kept hg
  clear hg
  have HK := Keep.mk hk3
  clear hk1 hk2 hk3 a1 a2 a3 a4 c0
  go_wp2_with fail
  go_loopw [3] (fun s3 w' => ∃ i : Int, 0 ≤ i ∧ i ≤ 256 ∧ s3 = .int .i64 i ∧ Keep (Kc w' ∧ w.grownBy w' none)) (fun s3 _ => (256 - intOf s3).toNat)
  case atStart => exact ⟨0, by omega, by omega, rfl, ⟨HK.out, HG3.out⟩⟩
  case round =>
    obtain ⟨i, i0, i1, rfl, HI⟩ := hrel
    by_cases c : i < 256
    · have T := tn_of i i0 c
      have b1 := fun W (hk : Kc W) => sin_c i W hk
      have b2 := fun W (hk : Kc W) => cos_c i W hk
      have b3 := fun W => rsin_c i (in_small _ (by omega) (by omega)) W
      have b4 := fun W => rcos_c i W
      have b5 := fun W (hk : Kc W) => sin_c (i + 128) W hk
      have b6 := fun W (hk : Kc W) => sin_c (128 - i) W hk
      have b7 := fun W (hk : Kc W) => cos_c (-i) W hk
      rw [T.a] at b5
      rw [T.b] at b6
      rw [T.c] at b7
      have t1 := T.d1
      have t2 := T.d2
      have t3 := T.s1
      have t4 := T.s2
      have t5 := T.c1
      have t6 := T.c2
      clear T
      generalize sinZ i = x at *
      generalize sinZ (i + 64) = y at *
      obtain ⟨X, hX⟩ : ∃ z, x * x = z := ⟨_, rfl⟩
      obtain ⟨Y, hY⟩ : ∃ z, y * y = z := ⟨_, rfl⟩
      have X0 : 0 ≤ X ∧ X ≤ 4294967296 := by
        rw [← hX]
        rcases Int.le_total 0 x with g | g
        · exact ⟨Int.mul_nonneg g g, Int.mul_le_mul t3 t3 g (by omega)⟩
        · have h1 := Int.mul_nonneg (show 0 ≤ -x by omega) (show 0 ≤ -x by omega)
          have h2 := Int.mul_le_mul (show -x ≤ 65536 by omega) (show -x ≤ 65536 by omega) (by omega) (show (0 : Int) ≤ 65536 by omega)
          rw [Int.neg_mul_neg] at h1 h2
          exact ⟨h1, h2⟩
      have Y0 : 0 ≤ Y ∧ Y ≤ 4294967296 := by
        rw [← hY]
        rcases Int.le_total 0 y with g | g
        · exact ⟨Int.mul_nonneg g g, Int.mul_le_mul t5 t5 g (by omega)⟩
        · have h1 := Int.mul_nonneg (show 0 ≤ -y by omega) (show 0 ≤ -y by omega)
          have h2 := Int.mul_le_mul (show -y ≤ 65536 by omega) (show -y ≤ 65536 by omega) (by omega) (show (0 : Int) ≤ 65536 by omega)
          rw [Int.neg_mul_neg] at h1 h2
          exact ⟨h1, h2⟩
      rw [hX, hY] at t1 t2
      obtain ⟨hk1, HGr⟩ := HI.out
      have HG1 := Keep.mk HGr
      clear HGr HI HK
      go_wp2_with fail
      refine (b1 _ hk1).mono ?_
      rintro e w' ⟨rfl, hw⟩; rw [hw]
      go_wp2_with fail
      refine (b2 _ hk1).mono ?_
      rintro e w' ⟨rfl, hw⟩; rw [hw]
      go_wp2_with fail
      refine (b3 _).mono ?_
      rintro e w2 ⟨rfl, hg⟩
      have HG2 := Keep.mk (HG1.out.trans hg)
      have hk2 := hk1.kept hg
      clear hg
      go_wp2_with fail
      refine (b4 _).mono ?_
      rintro e w3 ⟨rfl, hg⟩
      have HG3 := Keep.mk (HG2.out.trans hg)
      have hk3 := hk2.kept hg
      clear hg
      go_wp2_with fail
      refine (b5 _ hk3).mono ?_
      rintro e w' ⟨rfl, hw⟩; rw [hw]
      go_wp2_with fail
      refine (b6 _ hk3).mono ?_
      rintro e w' ⟨rfl, hw⟩; rw [hw]
      go_wp2_with fail
      refine (b7 _ hk3).mono ?_
      rintro e w' ⟨rfl, hw⟩; rw [hw]
      have HE := Keep.mk (And.intro hk3 HG3.out)
      clear hk1 hk2 hk3
      go_wp2_with fail
      refine ⟨⟨i + 1, by omega, by omega, rfl, HE⟩, ?_⟩
      simp only [intOf]; omega
    · clear HK
      go_wp2_with fail
      go_ret
      exact ⟨rfl, HI.out.2⟩
end Go.Proofs.YtkfkhjafhlafhaaDoor
