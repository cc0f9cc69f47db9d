/- the reference: Derive; MacTags' walk -/
import Derived.Test.YtbmnlhmelbhjeaaDoorMaR3
namespace Go.Proofs.YtbmnlhmelbhjeaaDoor
open Go Go.RowKit

theorem hmac_said (key use : ByteArray) (ps : List ByteArray) : hmacB key (saidB use ps) = deriveB key use ps := by
  unfold hmacB deriveB; rw [saidB_sl]

set_option maxRecDepth 100000 in
set_option maxHeartbeats 4000000 in
theorem rderive_any (key use : ByteArray) (a : Option Addr) (n c : Nat) (ps : List ByteArray) (w : World) (hk : RK w) (h3 : 3 ≤ w.heap.size) (hp : Strs w a n ps) (h1 : key.size ≤ 2147483648) (hs : (saidB use ps).size ≤ 2147483648) :
    Calls Tryd.prog 34 #[.string key, .string use, .slice a n c] w fun e w' => e = .returned (.string (deriveB key use ps)) ∧ w.grownBy w' none := by
  have HK : Keep (RK w) := ⟨hk⟩
  have HP : Keep (Strs w a n ps) := ⟨hp⟩
  clear hk hp
  go_enter Tryd.func34, Tryd.ntmps34
  go_wp2_with fail
  refine (rsaid_any use a n c ps _ HP.out hs).mono ?_
  rintro e w1 ⟨rfl, g1⟩
  have H1 : Keep (w.grownBy w1 none) := ⟨g1⟩
  have HQ : Keep (hmacB key (saidB use ps) = deriveB key use ps) := ⟨hmac_said key use ps⟩
  generalize saidB use ps = s at hs HQ ⊢
  clear g1
  go_wp2_with fail
  refine (rtag_any key s _ (HK.out.kept H1.out) (Nat.le_trans h3 H1.out.size) h1 hs).mono ?_
  rintro e w2 ⟨rfl, g2⟩
  rw [HQ.out]
  have H2 : Keep (w.grownBy w2 none) := ⟨H1.out.trans g2⟩
  clear g2
  go_wp2_with fail
  go_ret
  exact ⟨rfl, H2.out⟩

end Go.Proofs.YtbmnlhmelbhjeaaDoor
