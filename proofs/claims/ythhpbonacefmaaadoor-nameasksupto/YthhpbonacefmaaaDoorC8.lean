/- asks; NameAsks' walk. -/
import Derived.Test.YthhpbonacefmaaaDoorC5
import Derived.Test.YthhpbonacefmaaaDoorC6
import Derived.Test.YthhpbonacefmaaaDoorC7
namespace Go.Proofs.YthhpbonacefmaaaDoor
open Go Go.RowKit

set_option maxRecDepth 100000 in
set_option maxHeartbeats 8000000 in
theorem asks_c (s : ByteArray) (n : Int) (w : World) (hs : s.size ≤ 1048576) (hn1 : -9223372036854775808 ≤ n) (hn2 : n ≤ 9223372036854775807) (hk : Kc w) :
    Calls Tryd.prog 21 #[.string s, iv n] w fun e w' => e = .returned (.bool true) ∧ w.grownBy w' none := by
  have HK := Keep.mk hk
  clear hk
  have HG : Keep (w.grownBy w none) := ⟨World.grownBy.refl _ _⟩
  go_enter Tryd.func21, Tryd.ntmps21
  go_wp2_with fail
  refine (check_c s _ (by omega) (HK.out.kept HG.out)).mono ?_
  rintro e w1 ⟨rfl, hG⟩
  replace HG : Keep (w.grownBy w1 none) := ⟨HG.out.trans hG⟩
  clear hG
  go_wp2_with fail
  refine (num_c _ _).mono ?_
  rintro e wq ⟨rfl, rfl⟩
  go_wp2_with fail
  refine (rcheck_c s _ hs).mono ?_
  rintro e w3 ⟨rfl, hG⟩
  replace HG : Keep (w.grownBy w3 none) := ⟨HG.out.trans hG⟩
  clear hG
  go_wp2_with fail
  refine (num_c _ _).mono ?_
  rintro e wq ⟨rfl, rfl⟩
  go_wp2_with fail
  refine (fold_c s _ (HK.out.kept HG.out)).mono ?_
  rintro e w5 ⟨rfl, hG⟩
  replace HG : Keep (w.grownBy w5 none) := ⟨HG.out.trans hG⟩
  clear hG
  go_wp2_with fail
  refine (rfold_c s _ hs).mono ?_
  rintro e w6 ⟨rfl, hG⟩
  replace HG : Keep (w.grownBy w6 none) := ⟨HG.out.trans hG⟩
  clear hG
  go_wp2_with fail
  refine (runes_c s _ (by omega)).mono ?_
  rintro e w7 ⟨rfl, hG⟩
  replace HG : Keep (w.grownBy w7 none) := ⟨HG.out.trans hG⟩
  clear hG
  go_wp2_with fail
  refine (rrunes_c s _ hs).mono ?_
  rintro e w8 ⟨rfl, hG⟩
  replace HG : Keep (w.grownBy w8 none) := ⟨HG.out.trans hG⟩
  clear hG
  go_wp2_with fail
  refine (cut_c s n _ (by omega) hn1 hn2).mono ?_
  rintro e w9 ⟨rfl, hG⟩
  replace HG : Keep (w.grownBy w9 none) := ⟨HG.out.trans hG⟩
  clear hG
  go_wp2_with fail
  refine (rcut_c s n _ hs).mono ?_
  rintro e w10 ⟨rfl, hG⟩
  replace HG : Keep (w.grownBy w10 none) := ⟨HG.out.trans hG⟩
  clear hG
  go_wp2_with fail
  refine (pad_c s n _ (by omega) hn1 hn2).mono ?_
  rintro e w11 ⟨rfl, hG⟩
  replace HG : Keep (w.grownBy w11 none) := ⟨HG.out.trans hG⟩
  clear hG
  go_wp2_with fail
  refine (rpad_c s n _ hs hn1 hn2).mono ?_
  rintro e w12 ⟨rfl, hG⟩
  replace HG : Keep (w.grownBy w12 none) := ⟨HG.out.trans hG⟩
  clear hG
  go_wp2_with fail
  go_ret
  exact ⟨rfl, HG.out⟩

set_option maxRecDepth 100000 in
set_option maxHeartbeats 8000000 in
theorem asks_any (a b : ByteArray) (n : Int) (w : World) (ha : a.size ≤ 1048576) (hb : b.size ≤ 1048576) (hn1 : -9223372036854775808 ≤ n) (hn2 : n ≤ 9223372036854775807) (hk : Kc w) :
    Calls Tryd.prog 8 #[.string a, .string b, iv n] w fun e w' => e = .returned (.bool true) ∧ w.grownBy w' none := by
  have HK := Keep.mk hk
  clear hk
  have HG : Keep (w.grownBy w none) := ⟨World.grownBy.refl _ _⟩
  have rb := rn_le b
  go_enter Tryd.func8, Tryd.ntmps8
  go_wp2_with fail
  refine (alive_c _ (HK.out.kept HG.out)).mono ?_
  rintro e w1 ⟨rfl, hG⟩
  replace HG : Keep (w.grownBy w1 none) := ⟨HG.out.trans hG⟩
  clear hG
  go_wp2_with fail
  refine (asks_c a n _ ha hn1 hn2 (HK.out.kept HG.out)).mono ?_
  rintro e w2 ⟨rfl, hG⟩
  replace HG : Keep (w.grownBy w2 none) := ⟨HG.out.trans hG⟩
  clear hG
  go_wp2_with fail
  refine (asks_c b n _ hb hn1 hn2 (HK.out.kept HG.out)).mono ?_
  rintro e w3 ⟨rfl, hG⟩
  replace HG : Keep (w.grownBy w3 none) := ⟨HG.out.trans hG⟩
  clear hG
  go_wp2_with fail
  refine (same_c a b _ (HK.out.kept HG.out)).mono ?_
  rintro e w4 ⟨rfl, hG⟩
  replace HG : Keep (w.grownBy w4 none) := ⟨HG.out.trans hG⟩
  clear hG
  go_wp2_with fail
  refine (rsame_c a b _ ha hb).mono ?_
  rintro e w5 ⟨rfl, hG⟩
  replace HG : Keep (w.grownBy w5 none) := ⟨HG.out.trans hG⟩
  clear hG
  generalize decide (foldL (sl a) = foldL (sl b)) = Q
  cases Q
  case false =>
    go_wp2_with fail
    refine (near_c a b _ (by omega) (by omega)).mono ?_
    rintro e w6 ⟨rfl, hG⟩
    replace HG : Keep (w.grownBy w6 none) := ⟨HG.out.trans hG⟩
    clear hG
    go_wp2_with fail
    refine (rnear_c a b _ ha hb).mono ?_
    rintro e w7 ⟨rfl, hG⟩
    replace HG : Keep (w.grownBy w7 none) := ⟨HG.out.trans hG⟩
    clear hG
    go_wp2_with fail
    go_ret
    exact ⟨rfl, HG.out⟩
  case true =>
    go_wp2_with fail
    refine (near_c a b _ (by omega) (by omega)).mono ?_
    rintro e w6 ⟨rfl, hG⟩
    replace HG : Keep (w.grownBy w6 none) := ⟨HG.out.trans hG⟩
    clear hG
    go_wp2_with fail
    refine (rnear_c a b _ ha hb).mono ?_
    rintro e w7 ⟨rfl, hG⟩
    replace HG : Keep (w.grownBy w7 none) := ⟨HG.out.trans hG⟩
    clear hG
    go_wp2_with fail
    go_ret
    exact ⟨rfl, HG.out⟩
end Go.Proofs.YthhpbonacefmaaaDoor
