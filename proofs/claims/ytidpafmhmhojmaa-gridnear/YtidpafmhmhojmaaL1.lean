/- the laws' fixed: a grid that is alive. -/
import Derived.Test.YtidpafmhmhojmaaL0
namespace Go.Proofs.Ytidpafmhmhojmaa
open Go Go.RowKit

theorem Sep.newRow {w0 W : World} {l : List As} (h : Sep w0 W l) (cs : List Value) (e : TypeId) (n : Nat) (hn : cs.length = n) (h0 : 0 < n) (hm : n ≤ 1000000) : Sep w0 (W.alloc (.cells cs.toArray e)) (rowV e 1 (sl W.heap.size n n) n cs :: l) :=
  h.new (World.grownBy_alloc _ _ _) (Loc.one (a := rowV _ _ _ _ _) (fun i => some W.heap.size = some i) ⟨⟨by omega, .inr ⟨W.heap.size, n, cs.toArray, rfl, Nat.zero_le _, heap_alloc_last W _, by omega, by unfold maxLen; omega, by simp [hn], by rw [Nat.mul_one, ← hn]; simp⟩⟩, rfl⟩ (fun i hi => .inr (by cases hi; exact Nat.le_refl _)))
def fM1 : List Pl := [⟨5, 0, 0⟩]
def fM2 : List Pl := [⟨3, 65536, 0⟩, ⟨5, 0, 0⟩]
def fM3 : List Pl := [⟨3, 65536, 0⟩, ⟨5, 0, 0⟩, ⟨9, -1, 0⟩]
theorem f1 : putM [] ⟨5, 0, 0⟩ = fM1 := rfl
theorem f2 : putM fM1 ⟨3, 65536, 0⟩ = fM2 := rfl
theorem f3 : putM fM2 ⟨9, -1, 0⟩ = fM3 := rfl
theorem f4 : nrL fM3 0 0 65536 = [3, 5, 9] := by kernel_rfl
theorem f5 : nstL fM3 0 0 65536 2 = [5, 9] := by kernel_rfl
theorem f6 : rmk fM3 9 = fM2 := rfl
theorem f7 : atX fM3 3 = 65536 ∧ atY fM3 3 = 0 ∧ atB fM3 3 = true ∧ atB fM3 9 = true ∧ atB fM2 9 = false := ⟨rfl, rfl, rfl, rfl, rfl⟩
set_option maxRecDepth 100000 in
set_option maxHeartbeats 16000000 in
theorem fixed_c (W : World) : Calls Try.prog 7 #[] W fun e W' => e = .returned (.bool true) ∧ W.grownBy W' none := by
  have HS := Keep.mk (Sep.nil W)
  go_enter Try.func7, Try.ntmps7
  go_wp2_with fail
  refine (new_c W W [] 65536 (by omega) HS.out).mono ?_
  rintro e W1 ⟨gb, rfl, S1⟩
  replace HS := Keep.mk S1
  clear S1
  go_wp2_with fail
  refine (new_no W1 0 (by omega)).mono ?_
  rintro e w1 ⟨rfl, hw⟩
  rw [hw]
  clear hw w1
  go_wp2_with fail
  refine (put_c W W1 [] gb 65536 [] 5 0 0 (by unfold I64; omega) (by unfold I64; omega) (by unfold I64; omega) (by decide) HS.out).mono ?_
  rintro e W2 ⟨rfl, S2⟩
  rw [f1] at S2
  replace HS := Keep.mk S2
  clear S2
  go_wp2_with fail
  refine (put_c W W2 [] gb 65536 fM1 3 65536 0 (by unfold I64; omega) (by unfold I64; omega) (by unfold I64; omega) (by decide) HS.out).mono ?_
  rintro e W3 ⟨rfl, S2⟩
  rw [f2] at S2
  replace HS := Keep.mk S2
  clear S2
  go_wp2_with fail
  refine (put_c W W3 [] gb 65536 fM2 9 (-1) 0 (by unfold I64; omega) (by unfold I64; omega) (by unfold I64; omega) (by decide) HS.out).mono ?_
  rintro e W4 ⟨rfl, S2⟩
  rw [f3] at S2
  replace HS := Keep.mk S2
  clear S2
  go_wp2_with fail
  refine (at_c W W4 [] gb 65536 fM3 3 (by unfold I64; omega) HS.out).mono ?_
  rintro e W5 ⟨rfl, g5⟩
  rw [f7.1, f7.2.1, f7.2.2.1]
  have S6 := (HS.out.grown g5).newBox #[iv 65536, iv 0] 32
  obtain ⟨ab, hab⟩ : ∃ b, W5.heap.size = b := ⟨_, rfl⟩
  rw [hab] at S6
  replace HS : Keep (Sep W (W5.alloc (.cells #[iv 65536, iv 0] 32)) [gridA gb 65536 fM3, boxA ab [iv 65536, iv 0] 32]) := ⟨S6.swap⟩
  clear S6 g5
  go_wp2_with fail
  generalize W5.alloc (.cells #[iv 65536, iv 0] 32) = W6 at HS ⊢
  refine (near_c W W6 _ gb 65536 fM3 0 0 65536 (by unfold I64; omega) (by unfold I64; omega) (by decide) HS.out).mono ?_
  rintro e W7 ⟨v7, rfl, S7⟩
  rw [f4] at S7
  have S8 := S7.newRow [iv 3, iv 5, iv 9] 3 3 rfl (by omega) (by omega)
  obtain ⟨W8, hW8⟩ : ∃ W8, W7.alloc (.cells #[iv 3, iv 5, iv 9] 3) = W8 := ⟨_, rfl⟩
  obtain ⟨b8, hb8⟩ : ∃ b, W7.heap.size = b := ⟨_, rfl⟩
  replace S8 : Sep W W8 (nums (sl b8 3 3) [3, 5, 9] :: nums v7 [3, 5, 9] :: gridA gb 65536 fM3 :: [boxA ab [iv 65536, iv 0] 32]) := by rw [← hW8, ← hb8]; exact S8
  have HI := Keep.mk (ints_c W W8 _ v7 (sl b8 3 3) [3, 5, 9] (by decide) S8 k1m k0m)
  replace HS := Keep.mk S8
  clear S7 S8 hab
  go_wp2_with fail
  refine HI.out.mono ?_
  rintro e W9 ⟨rfl, g9⟩
  replace HS : Keep (Sep W W9 (gridA gb 65536 fM3 :: [boxA ab [iv 65536, iv 0] 32])) := ⟨(HS.out.grown g9).tail.tail⟩
  clear g9 HI hW8 hb8
  go_wp2_with fail
  refine (nearest_c W W9 _ gb 65536 fM3 0 0 65536 2 (by unfold I64; omega) (by unfold I64; omega) (by decide) HS.out).mono ?_
  rintro e Wa ⟨va, rfl, S7⟩
  rw [f5] at S7
  have S8 := S7.newRow [iv 5, iv 9] 3 2 rfl (by omega) (by omega)
  obtain ⟨Wb, hWb⟩ : ∃ Wb, Wa.alloc (.cells #[iv 5, iv 9] 3) = Wb := ⟨_, rfl⟩
  obtain ⟨bb, hbb⟩ : ∃ b, Wa.heap.size = b := ⟨_, rfl⟩
  replace S8 : Sep W Wb (nums (sl bb 2 2) [5, 9] :: nums va [5, 9] :: gridA gb 65536 fM3 :: [boxA ab [iv 65536, iv 0] 32]) := by rw [← hWb, ← hbb]; exact S8
  have HI := Keep.mk (ints_c W Wb _ va (sl bb 2 2) [5, 9] (by decide) S8 k1m k0m)
  replace HS := Keep.mk S8
  clear S7 S8
  go_wp2_with fail
  refine HI.out.mono ?_
  rintro e Wc ⟨rfl, g9⟩
  replace HS : Keep (Sep W Wc (gridA gb 65536 fM3 :: [boxA ab [iv 65536, iv 0] 32])) := ⟨(HS.out.grown g9).tail.tail⟩
  clear g9 HI hWb hbb
  go_wp2_with fail
  refine (len_c W Wc _ gb 65536 fM3 HS.out).mono ?_
  rintro e w1 ⟨rfl, hw⟩
  rw [hw, show (fM3.length : Int) = 3 from rfl]
  clear hw w1
  have x0 := (HS.out.boxGet k1m).cellv 0 _ rfl
  go_wp2_with fail
  refine (delete_c W Wc _ gb 65536 fM3 9 (by unfold I64; omega) (by decide) HS.out).mono ?_
  rintro e Wd ⟨rfl, S9⟩
  rw [f6] at S9
  rw [f7.2.2.2.1]
  replace HS := Keep.mk S9
  clear S9 x0
  go_wp2_with fail
  refine (delete_c W Wd _ gb 65536 fM2 9 (by unfold I64; omega) (by decide) HS.out).mono ?_
  rintro e We ⟨rfl, S9⟩
  rw [f7.2.2.2.2]
  have HF := Keep.mk S9.g
  clear S9 HS
  go_wp2_with fail
  go_ret
  exact ⟨rfl, HF.out⟩
end Go.Proofs.Ytidpafmhmhojmaa
