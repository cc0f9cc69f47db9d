/- the laws' alive, num, less. -/
import Derived.Test.YthhpbonacefmaaaDoorA4
import Derived.Test.YthhpbonacefmaaaDoorA6
namespace Go.Proofs.YthhpbonacefmaaaDoor
open Go Go.RowKit

/-- the pieces, reckoned -/
def piecesF : Nat → List UInt8 → List (Nat × List UInt8)
  | 0, _ => []
  | n + 1, l => match l with
    | [] => []
    | b :: t => ((dec (b :: t)).1, (b :: t).take (dec (b :: t)).2) :: piecesF n ((b :: t).drop (dec (b :: t)).2)
theorem pieces_fuel : ∀ (n : Nat) (l : List UInt8), l.length ≤ n → pieces l = piecesF n l
  | 0, l, h => by
    obtain rfl : l = [] := List.eq_nil_of_length_eq_zero (by omega)
    rw [pieces_nil]; rfl
  | n + 1, [], _ => by rw [pieces_nil]; rfl
  | n + 1, b :: t, h => by
    have hw := dec_w (l := b :: t) (by simp)
    rw [pieces_cons _ (by simp), pieces_fuel n _ (by rw [List.length_drop]; simp at h ⊢; omega)]
    rfl
theorem pieces_self (l : List UInt8) : pieces l = piecesF l.length l := pieces_fuel _ _ (Nat.le_refl _)
theorem ev_ann : chk ⟨#[65, 110, 110]⟩ = 0 := by unfold chk chkOK rn; rw [pieces_self]; kernel_rfl
theorem ev_ab : chk ⟨#[97, 32, 98]⟩ = 60 := by unfold chk chkOK rn; rw [pieces_self]; kernel_rfl
theorem ev_fold : mk (foldL (sl ⟨#[195, 132, 66, 67, 195, 151, 255]⟩)) = ⟨#[195, 164, 98, 99, 195, 151, 255]⟩ := by unfold foldL; rw [pieces_self]; kernel_rfl
theorem ev_runes : rn ⟨#[97, 226, 130, 98]⟩ = 4 := by unfold rn; rw [pieces_self]; kernel_rfl
theorem ev_cut : cutB ⟨#[195, 150, 116, 122, 105]⟩ 2 = ⟨#[195, 150, 116]⟩ := by unfold cutB cutL; rw [pieces_self]; kernel_rfl
theorem ev_pad : padB ⟨#[195, 150, 116]⟩ 4 = ⟨#[195, 150, 116, 32, 32]⟩ := by unfold padB padL cutL; rw [pieces_self]; kernel_rfl
theorem ev_near : nr (nums ⟨#[107, 105, 116, 116, 101, 110]⟩) (nums ⟨#[115, 105, 116, 116, 105, 110, 103]⟩) = 3 := by unfold nums; rw [pieces_self, pieces_self (sl ⟨#[115, 105, 116, 116, 105, 110, 103]⟩)]; kernel_rfl
theorem ev_same : decide (foldL (sl ⟨#[97]⟩) = foldL (sl ⟨#[98]⟩)) = false := by unfold foldL; rw [pieces_self, pieces_self (sl ⟨#[98]⟩)]; kernel_rfl
theorem num_c (x : Int) (w : World) : Calls Tryd.prog 13 #[iv x] w fun e w' => e = .returned (iv x) ∧ w' = w := by
  go_enter Tryd.func13, Tryd.ntmps13
  go_wp2_with fail
  go_ret
  exact ⟨rfl, rfl⟩
/-- 8, if it is more -/
def lessI (x : Int) : Int := if 8 < x then 8 else x
theorem less_c (x : Int) (w : World) : Calls Tryd.prog 18 #[iv x] w fun e w' => e = .returned (iv (lessI x)) ∧ w' = w := by
  go_enter Tryd.func18, Tryd.ntmps18
  by_cases h : 8 < x
  · have HL : Keep (lessI x = 8) := ⟨if_pos h⟩
    go_wp2_with fail
    go_ret
    rw [HL.out]
    exact ⟨rfl, rfl⟩
  · have HL : Keep (lessI x = x) := ⟨if_neg h⟩
    go_wp2_with fail
    go_ret
    rw [HL.out]
    exact ⟨rfl, rfl⟩

set_option maxRecDepth 100000 in
set_option maxHeartbeats 8000000 in
theorem alive_c (w : World) (hk : Kc w) : Calls Tryd.prog 9 #[] w fun e w' => e = .returned (.bool true) ∧ w.grownBy w' none := by
  have HK := Keep.mk hk
  clear hk
  have HG : Keep (w.grownBy w none) := ⟨World.grownBy.refl _ _⟩
  go_enter Tryd.func9, Tryd.ntmps9
  go_wp2_with fail
  refine (check_c ⟨#[65, 110, 110]⟩ _ (by simp [ByteArray.size]) (HK.out.kept HG.out)).mono ?_
  rintro e w1 ⟨rfl, hG⟩
  replace HG : Keep (w.grownBy w1 none) := ⟨HG.out.trans hG⟩
  clear hG
  rw [ev_ann]
  go_wp2_with fail
  refine (num_c _ _).mono ?_
  rintro e wq ⟨rfl, rfl⟩
  go_wp2_with fail
  refine (check_c ⟨#[97, 32, 98]⟩ _ (by simp [ByteArray.size]) (HK.out.kept HG.out)).mono ?_
  rintro e w3 ⟨rfl, hG⟩
  replace HG : Keep (w.grownBy w3 none) := ⟨HG.out.trans hG⟩
  clear hG
  rw [ev_ab]
  go_wp2_with fail
  refine (num_c _ _).mono ?_
  rintro e wq ⟨rfl, rfl⟩
  go_wp2_with fail
  refine (fold_c ⟨#[195, 132, 66, 67, 195, 151, 255]⟩ _ (HK.out.kept HG.out)).mono ?_
  rintro e w5 ⟨rfl, hG⟩
  replace HG : Keep (w.grownBy w5 none) := ⟨HG.out.trans hG⟩
  clear hG
  rw [ev_fold]
  go_wp2_with fail
  refine (runes_c ⟨#[97, 226, 130, 98]⟩ _ (by simp [ByteArray.size])).mono ?_
  rintro e w6 ⟨rfl, hG⟩
  replace HG : Keep (w.grownBy w6 none) := ⟨HG.out.trans hG⟩
  clear hG
  rw [ev_runes]
  go_wp2_with fail
  refine (cut_c ⟨#[195, 150, 116, 122, 105]⟩ 2 _ (by simp [ByteArray.size]) (by omega) (by omega)).mono ?_
  rintro e w7 ⟨rfl, hG⟩
  replace HG : Keep (w.grownBy w7 none) := ⟨HG.out.trans hG⟩
  clear hG
  rw [ev_cut]
  go_wp2_with fail
  refine (pad_c ⟨#[195, 150, 116]⟩ 4 _ (by simp [ByteArray.size]) (by omega) (by omega)).mono ?_
  rintro e w8 ⟨rfl, hG⟩
  replace HG : Keep (w.grownBy w8 none) := ⟨HG.out.trans hG⟩
  clear hG
  rw [ev_pad]
  go_wp2_with fail
  refine (near_c ⟨#[107, 105, 116, 116, 101, 110]⟩ ⟨#[115, 105, 116, 116, 105, 110, 103]⟩ _ (by simp [ByteArray.size]) (Nat.le_trans (rn_le _) (by simp [ByteArray.size]))).mono ?_
  rintro e w9 ⟨rfl, hG⟩
  replace HG : Keep (w.grownBy w9 none) := ⟨HG.out.trans hG⟩
  clear hG
  rw [ev_near]
  go_wp2_with fail
  refine (same_c ⟨#[97]⟩ ⟨#[98]⟩ _ (HK.out.kept HG.out)).mono ?_
  rintro e w10 ⟨rfl, hG⟩
  replace HG : Keep (w.grownBy w10 none) := ⟨HG.out.trans hG⟩
  clear hG
  rw [ev_same]
  go_wp2_with fail
  go_ret
  exact ⟨rfl, HG.out⟩
end Go.Proofs.YthhpbonacefmaaaDoor
