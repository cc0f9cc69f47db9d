/- the reference: Derive; MacTags' walk -/
import Derived.Test.YtabiomfgmdnikaaDoorR3
namespace Go.Proofs.YtabiomfgmdnikaaDoor
open Go Go.RowKit

theorem hmac_said (key use : ByteArray) (ps : List ByteArray) : hmacB key (saidB use ps) = deriveB key use ps := by
  unfold hmacB deriveB; rw [saidB_sl]

set_option maxRecDepth 100000 in
set_option maxHeartbeats 4000000 in
theorem rderive_any (key use : ByteArray) (a : Option Addr) (n c : Nat) (ps : List ByteArray) (w : World) (hk : RK w) (h3 : 3 ≤ w.heap.size) (hp : Strs w a n ps) (h1 : key.size ≤ 2147483648) (hs : (saidB use ps).size ≤ 2147483648) :
    Calls Tryd.prog 28 #[.string key, .string use, .slice a n c] w fun e w' => e = .returned (.string (deriveB key use ps)) ∧ w.grownBy w' none := by
  have HK : Keep (RK w) := ⟨hk⟩
  have HP : Keep (Strs w a n ps) := ⟨hp⟩
  clear hk hp
  go_enter Tryd.func28, Tryd.ntmps28
  go_wp2_with fail
  refine (rsaid_any use a n c ps _ HP.out hs).mono ?_
  rintro e w1 ⟨rfl, g1⟩
  have H1 : Keep (w.grownBy w1 none) := ⟨g1⟩
  have HQ : Keep (hmacB key (saidB use ps) = deriveB key use ps) := ⟨hmac_said key use ps⟩
  generalize saidB use ps = s at hs HQ ⊢
  clear g1
  go_wp2_with fail
  refine (rtag_any key s _ (HK.out.kept H1.out) (Nat.le_trans h3 H1.out.size) h1 hs).mono ?_
  rintro e w2 ⟨rfl, g2⟩
  rw [HQ.out]
  have H2 : Keep (w.grownBy w2 none) := ⟨H1.out.trans g2⟩
  clear g2
  go_wp2_with fail
  go_ret
  exact ⟨rfl, H2.out⟩

set_option maxRecDepth 100000 in
set_option maxHeartbeats 4000000 in
theorem mtags_any (key text : ByteArray) (a : Option Addr) (n c : Nat) (ps : List ByteArray) (w : World) (hkc : Kc w) (hk : RK w) (h3 : 3 ≤ w.heap.size) (hp : Strs w a n ps) (h1 : key.size ≤ 1073741824) (h2 : text.size ≤ 1073741824) (hs : (saidB text ps).size ≤ 2147483648) :
    Calls Tryd.prog 8 #[.string key, .string text, .slice a n c] w fun e w' => e = .returned (.bool true) ∧ w.grownBy w' none := by
  have HK : Keep (RK w) := ⟨hk⟩
  have HC : Keep (Kc w) := ⟨hkc⟩
  have HP : Keep (Strs w a n ps) := ⟨hp⟩
  have HS1 : Keep ((Mac.said (sl text) (ps.map sl)).length ≤ 2305843009213693952) := ⟨by rw [← saidB_size]; omega⟩
  have hs2 : (saidB key []).size ≤ 2147483648 := by
    rw [saidB_size]
    simp only [Mac.said, Mac.flat, List.length_append, List.length_cons, List.map_nil, List.flatMap_nil, List.length_nil, sl_len]
    omega
  have HS2 : Keep ((Mac.said (sl key) (([] : List ByteArray).map sl)).length ≤ 2305843009213693952) := ⟨by rw [← saidB_size]; omega⟩
  have hb1 : ((hmacB key text).toList == (hmacB key text).toList) = true := by simp
  have hb2 : ((deriveB key text ps).toList == (deriveB key text ps).toList) = true := by simp
  have hb3 : ((deriveB text key []).toList == (deriveB text key []).toList) = true := by simp
  clear hk hp hkc
  go_enter Tryd.func8, Tryd.ntmps8
  go_wp2_with fail
  refine (malive_any _ HC.out).mono ?_
  rintro e w1 ⟨rfl, g1⟩
  have H1 : Keep (w.grownBy w1 none) := ⟨g1⟩
  clear g1
  go_wp2_with fail
  refine (tag_any key text _ (HC.out.kept H1.out (by simp)) (by omega) (by omega)).mono ?_
  rintro e w2 ⟨rfl, g2⟩
  have H2 : Keep (w.grownBy w2 none) := ⟨H1.out.trans g2⟩
  clear g2
  go_wp2_with fail
  refine (rtag_any key text _ (HK.out.kept H2.out) (Nat.le_trans h3 H2.out.size) (by omega) (by omega)).mono ?_
  rintro e w3 ⟨rfl, g3⟩
  have H3 : Keep (w.grownBy w3 none) := ⟨H2.out.trans g3⟩
  clear g3
  go_wp2_with fail
  refine (derive_any key text a n c ps _ (HC.out.kept H3.out (by simp)) (HP.out.kept H3.out) (by omega) HS1.out).mono ?_
  rintro e w4 ⟨rfl, g4⟩
  have H4 : Keep (w.grownBy w4 none) := ⟨H3.out.trans g4⟩
  clear g4
  go_wp2_with fail
  refine (rderive_any key text a n c ps _ (HK.out.kept H4.out) (Nat.le_trans h3 H4.out.size) (HP.out.kept H4.out) (by omega) hs).mono ?_
  rintro e w5 ⟨rfl, g5⟩
  have H5 : Keep (w.grownBy w5 none) := ⟨H4.out.trans g5⟩
  clear g5
  go_wp2_with fail
  refine (derive_any text key none 0 0 [] _ (HC.out.kept H5.out (by simp)) ⟨rfl, fun h => absurd h (by decide)⟩ (by omega) HS2.out).mono ?_
  rintro e w6 ⟨rfl, g6⟩
  have H6 : Keep (w.grownBy w6 none) := ⟨H5.out.trans g6⟩
  clear g6
  go_wp2_with fail
  refine (rderive_any text key none 0 0 [] _ (HK.out.kept H6.out) (Nat.le_trans h3 H6.out.size) ⟨rfl, fun h => absurd h (by decide)⟩ (by omega) hs2).mono ?_
  rintro e w7 ⟨rfl, g7⟩
  have H7 : Keep (w.grownBy w7 none) := ⟨H6.out.trans g7⟩
  clear g7
  go_wp2_with fail
  go_ret
  exact ⟨rfl, H7.out⟩
end Go.Proofs.YtabiomfgmdnikaaDoor
