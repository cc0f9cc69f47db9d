/- the reference: goes, size. -/
import Derived.Test.YthhpbonacefmaaaDoorL5
namespace Go.Proofs.YthhpbonacefmaaaDoor
open Go Go.RowKit

/-- is there a byte that goes on, from lo to hi? -/
def gs (l : List UInt8) (i : Nat) (lo hi : Int) : Bool := match l[i]? with
  | some b => decide (lo ≤ (b.toNat : Int)) && decide ((b.toNat : Int) ≤ hi)
  | none => false
set_option maxRecDepth 100000 in
set_option maxHeartbeats 2000000 in
theorem goes_c (s : ByteArray) (i : Nat) (lo hi : Int) (w : World) :
    Calls Tryd.prog 57 #[.string s, iv i, iv lo, iv hi] w fun e w' => e = .returned (.bool (gs (sl s) i lo hi)) ∧ w' = w := by
  go_enter Tryd.func57, Tryd.ntmps57
  by_cases hi1 : i < s.size
  · obtain ⟨b, hb⟩ : ∃ b, (sl s)[i]? = some b := ⟨_, List.getElem?_eq_getElem hi1⟩
    have hix := idx9' s i b hi1 hb
    have HB : Keep (gs (sl s) i lo hi = (decide (lo ≤ (b.toNat : Int)) && decide ((b.toNat : Int) ≤ hi))) := ⟨by unfold gs; rw [hb]⟩
    obtain ⟨z, hz⟩ : ∃ z : Int, (b.toNat : Int) = z := ⟨_, rfl⟩
    have hz0 : 0 ≤ z := by omega
    have hz1 : z < 256 := by have := b.toNat_lt; omega
    rw [hz] at hix HB
    clear hz hb
    by_cases h1 : lo ≤ z
    · rw [decide_eq_true h1] at HB
      by_cases h2 : z ≤ hi
      · rw [decide_eq_true h2] at HB
        go_wp2_with fail
        go_ret
        rw [HB.out]
        exact ⟨rfl, rfl⟩
      · rw [decide_eq_false h2] at HB
        go_wp2_with fail
        go_ret
        rw [HB.out]
        exact ⟨rfl, rfl⟩
    · rw [decide_eq_false h1] at HB
      go_wp2_with fail
      go_ret
      rw [HB.out]
      exact ⟨rfl, rfl⟩
  · have HB : Keep (gs (sl s) i lo hi = false) := ⟨by unfold gs; rw [List.getElem?_eq_none (by rw [sl_len]; omega)]⟩
    go_wp2_with fail
    go_ret
    rw [HB.out]
    exact ⟨rfl, rfl⟩

/-- how many bytes, by the reference -/
def szr (l : List UInt8) (i : Nat) (b : Int) : Int :=
  if b < 128 then 1
  else if 194 ≤ b ∧ b ≤ 223 then (if gs l (i + 1) 128 191 then 2 else 0)
  else if 224 ≤ b ∧ b ≤ 239 then (if gs l (i + 1) (if b = 224 then 160 else 128) (if b = 237 then 159 else 191) && gs l (i + 2) 128 191 then 3 else 0)
  else if 240 ≤ b ∧ b ≤ 244 then (if gs l (i + 1) (if b = 240 then 144 else 128) (if b = 244 then 143 else 191) && (gs l (i + 2) 128 191 && gs l (i + 3) 128 191) then 4 else 0)
  else 0
set_option maxRecDepth 100000 in
set_option maxHeartbeats 8000000 in
theorem size_c (s : ByteArray) (i : Nat) (b : UInt8) (w : World) (hi : i < s.size) (hs : s.size ≤ 281474976710656) (hb : (sl s)[i]? = some b) :
    Calls Tryd.prog 50 #[.string s, iv i] w fun e w' => e = .returned (iv (szr (sl s) i b.toNat)) ∧ w' = w := by
  go_enter Tryd.func50, Tryd.ntmps50
  have hix := idx9' s i b hi hb
  obtain ⟨z, hz⟩ : ∃ z : Int, (b.toNat : Int) = z := ⟨_, rfl⟩
  have hz0 : 0 ≤ z := by omega
  have hz1 : z < 256 := by have := b.toNat_lt; omega
  rw [hz] at hix ⊢
  clear hz hb
  obtain ⟨R, hR⟩ : ∃ R, szr (sl s) i z = R := ⟨_, rfl⟩
  rw [hR]
  unfold szr at hR
  have HR := Keep.mk hR
  clear hR
  by_cases c1 : z < 128
  · have e : R = 1 := by rw [← HR.out, if_pos c1]
    subst e
    go_wp2_with fail
    go_ret
    exact ⟨rfl, rfl⟩
  rw [if_neg c1] at HR
  by_cases c2 : 194 ≤ z ∧ z ≤ 223
  · rw [if_pos c2] at HR
    obtain ⟨c3, c4⟩ := c2
    go_wp2_with fail
    refine (goes_c s (i + 1) 128 191 _).mono ?_
    rintro e wq ⟨rfl, rfl⟩
    obtain ⟨g1, hg1⟩ : ∃ g, gs (sl s) (i + 1) 128 191 = g := ⟨_, rfl⟩
    rw [hg1]
    cases g1
    · have e : R = 0 := by rw [← HR.out]; simp [hg1]
      subst e
      go_wp2_with fail
      go_ret
      exact ⟨rfl, rfl⟩
    · have e : R = 2 := by rw [← HR.out]; simp [hg1]
      subst e
      go_wp2_with fail
      go_ret
      exact ⟨rfl, rfl⟩
  rw [if_neg c2] at HR
  by_cases c5 : 224 ≤ z ∧ z ≤ 239
  · rw [if_pos c5] at HR
    obtain ⟨c6, c7⟩ := c5
    by_cases c8 : z = 224
    · subst c8
      rw [show (if (224:Int) = 224 then (160:Int) else 128) = 160 from by decide, show (if (224:Int) = 237 then (159:Int) else 191) = 191 from by decide] at HR
      go_wp2_with fail
      refine (goes_c s (i + 1) 160 191 _).mono ?_
      rintro e wq ⟨rfl, rfl⟩
      obtain ⟨g1, hg1⟩ : ∃ g, gs (sl s) (i + 1) 160 191 = g := ⟨_, rfl⟩
      rw [hg1]
      cases g1
      · have e : R = 0 := by rw [← HR.out]; simp [hg1]
        subst e
        go_wp2_with fail
        go_ret
        exact ⟨rfl, rfl⟩
      · go_wp2_with fail
        refine (goes_c s (i + 2) 128 191 _).mono ?_
        rintro e wq ⟨rfl, rfl⟩
        obtain ⟨g2, hg2⟩ : ∃ g, gs (sl s) (i + 2) 128 191 = g := ⟨_, rfl⟩
        rw [hg2]
        cases g2
        · have e : R = 0 := by rw [← HR.out]; simp [hg1, hg2]
          subst e
          go_wp2_with fail
          go_ret
          exact ⟨rfl, rfl⟩
        · have e : R = 3 := by rw [← HR.out]; simp [hg1, hg2]
          subst e
          go_wp2_with fail
          go_ret
          exact ⟨rfl, rfl⟩
    by_cases c9 : z = 237
    · subst c9
      rw [show (if (237:Int) = 224 then (160:Int) else 128) = 128 from by decide, show (if (237:Int) = 237 then (159:Int) else 191) = 159 from by decide] at HR
      go_wp2_with fail
      refine (goes_c s (i + 1) 128 159 _).mono ?_
      rintro e wq ⟨rfl, rfl⟩
      obtain ⟨g1, hg1⟩ : ∃ g, gs (sl s) (i + 1) 128 159 = g := ⟨_, rfl⟩
      rw [hg1]
      cases g1
      · have e : R = 0 := by rw [← HR.out]; simp [hg1]
        subst e
        go_wp2_with fail
        go_ret
        exact ⟨rfl, rfl⟩
      · go_wp2_with fail
        refine (goes_c s (i + 2) 128 191 _).mono ?_
        rintro e wq ⟨rfl, rfl⟩
        obtain ⟨g2, hg2⟩ : ∃ g, gs (sl s) (i + 2) 128 191 = g := ⟨_, rfl⟩
        rw [hg2]
        cases g2
        · have e : R = 0 := by rw [← HR.out]; simp [hg1, hg2]
          subst e
          go_wp2_with fail
          go_ret
          exact ⟨rfl, rfl⟩
        · have e : R = 3 := by rw [← HR.out]; simp [hg1, hg2]
          subst e
          go_wp2_with fail
          go_ret
          exact ⟨rfl, rfl⟩
    rw [show (if z = 224 then (160:Int) else 128) = 128 from if_neg c8, show (if z = 237 then (159:Int) else 191) = 191 from if_neg c9] at HR
    clear c2
    go_wp2_with fail
    refine (goes_c s (i + 1) 128 191 _).mono ?_
    rintro e wq ⟨rfl, rfl⟩
    obtain ⟨g1, hg1⟩ : ∃ g, gs (sl s) (i + 1) 128 191 = g := ⟨_, rfl⟩
    rw [hg1]
    cases g1
    · have e : R = 0 := by rw [← HR.out]; simp [hg1]
      subst e
      go_wp2_with fail
      go_ret
      exact ⟨rfl, rfl⟩
    · go_wp2_with fail
      refine (goes_c s (i + 2) 128 191 _).mono ?_
      rintro e wq ⟨rfl, rfl⟩
      obtain ⟨g2, hg2⟩ : ∃ g, gs (sl s) (i + 2) 128 191 = g := ⟨_, rfl⟩
      rw [hg2]
      cases g2
      · have e : R = 0 := by rw [← HR.out]; simp [hg1, hg2]
        subst e
        go_wp2_with fail
        go_ret
        exact ⟨rfl, rfl⟩
      · have e : R = 3 := by rw [← HR.out]; simp [hg1, hg2]
        subst e
        go_wp2_with fail
        go_ret
        exact ⟨rfl, rfl⟩
  rw [if_neg c5] at HR
  by_cases c10 : 240 ≤ z ∧ z ≤ 244
  · rw [if_pos c10] at HR
    obtain ⟨c11, c12⟩ := c10
    by_cases c13 : z = 240
    · subst c13
      rw [show (if (240:Int) = 240 then (144:Int) else 128) = 144 from by decide, show (if (240:Int) = 244 then (143:Int) else 191) = 191 from by decide] at HR
      go_wp2_with fail
      refine (goes_c s (i + 1) 144 191 _).mono ?_
      rintro e wq ⟨rfl, rfl⟩
      obtain ⟨g1, hg1⟩ : ∃ g, gs (sl s) (i + 1) 144 191 = g := ⟨_, rfl⟩
      rw [hg1]
      cases g1
      · have e : R = 0 := by rw [← HR.out]; simp [hg1]
        subst e
        go_wp2_with fail
        go_ret
        exact ⟨rfl, rfl⟩
      · go_wp2_with fail
        refine (goes_c s (i + 2) 128 191 _).mono ?_
        rintro e wq ⟨rfl, rfl⟩
        obtain ⟨g2, hg2⟩ : ∃ g, gs (sl s) (i + 2) 128 191 = g := ⟨_, rfl⟩
        rw [hg2]
        cases g2
        · have e : R = 0 := by rw [← HR.out]; simp [hg1, hg2]
          subst e
          go_wp2_with fail
          go_ret
          exact ⟨rfl, rfl⟩
        · go_wp2_with fail
          refine (goes_c s (i + 3) 128 191 _).mono ?_
          rintro e wq ⟨rfl, rfl⟩
          obtain ⟨g3, hg3⟩ : ∃ g, gs (sl s) (i + 3) 128 191 = g := ⟨_, rfl⟩
          rw [hg3]
          cases g3
          · have e : R = 0 := by rw [← HR.out]; simp [hg1, hg2, hg3]
            subst e
            go_wp2_with fail
            go_ret
            exact ⟨rfl, rfl⟩
          · have e : R = 4 := by rw [← HR.out]; simp [hg1, hg2, hg3]
            subst e
            go_wp2_with fail
            go_ret
            exact ⟨rfl, rfl⟩
    by_cases c14 : z = 244
    · subst c14
      rw [show (if (244:Int) = 240 then (144:Int) else 128) = 128 from by decide, show (if (244:Int) = 244 then (143:Int) else 191) = 143 from by decide] at HR
      go_wp2_with fail
      refine (goes_c s (i + 1) 128 143 _).mono ?_
      rintro e wq ⟨rfl, rfl⟩
      obtain ⟨g1, hg1⟩ : ∃ g, gs (sl s) (i + 1) 128 143 = g := ⟨_, rfl⟩
      rw [hg1]
      cases g1
      · have e : R = 0 := by rw [← HR.out]; simp [hg1]
        subst e
        go_wp2_with fail
        go_ret
        exact ⟨rfl, rfl⟩
      · go_wp2_with fail
        refine (goes_c s (i + 2) 128 191 _).mono ?_
        rintro e wq ⟨rfl, rfl⟩
        obtain ⟨g2, hg2⟩ : ∃ g, gs (sl s) (i + 2) 128 191 = g := ⟨_, rfl⟩
        rw [hg2]
        cases g2
        · have e : R = 0 := by rw [← HR.out]; simp [hg1, hg2]
          subst e
          go_wp2_with fail
          go_ret
          exact ⟨rfl, rfl⟩
        · go_wp2_with fail
          refine (goes_c s (i + 3) 128 191 _).mono ?_
          rintro e wq ⟨rfl, rfl⟩
          obtain ⟨g3, hg3⟩ : ∃ g, gs (sl s) (i + 3) 128 191 = g := ⟨_, rfl⟩
          rw [hg3]
          cases g3
          · have e : R = 0 := by rw [← HR.out]; simp [hg1, hg2, hg3]
            subst e
            go_wp2_with fail
            go_ret
            exact ⟨rfl, rfl⟩
          · have e : R = 4 := by rw [← HR.out]; simp [hg1, hg2, hg3]
            subst e
            go_wp2_with fail
            go_ret
            exact ⟨rfl, rfl⟩
    rw [show (if z = 240 then (144:Int) else 128) = 128 from if_neg c13, show (if z = 244 then (143:Int) else 191) = 191 from if_neg c14] at HR
    clear c2 c5
    go_wp2_with fail
    refine (goes_c s (i + 1) 128 191 _).mono ?_
    rintro e wq ⟨rfl, rfl⟩
    obtain ⟨g1, hg1⟩ : ∃ g, gs (sl s) (i + 1) 128 191 = g := ⟨_, rfl⟩
    rw [hg1]
    cases g1
    · have e : R = 0 := by rw [← HR.out]; simp [hg1]
      subst e
      go_wp2_with fail
      go_ret
      exact ⟨rfl, rfl⟩
    · go_wp2_with fail
      refine (goes_c s (i + 2) 128 191 _).mono ?_
      rintro e wq ⟨rfl, rfl⟩
      obtain ⟨g2, hg2⟩ : ∃ g, gs (sl s) (i + 2) 128 191 = g := ⟨_, rfl⟩
      rw [hg2]
      cases g2
      · have e : R = 0 := by rw [← HR.out]; simp [hg1, hg2]
        subst e
        go_wp2_with fail
        go_ret
        exact ⟨rfl, rfl⟩
      · go_wp2_with fail
        refine (goes_c s (i + 3) 128 191 _).mono ?_
        rintro e wq ⟨rfl, rfl⟩
        obtain ⟨g3, hg3⟩ : ∃ g, gs (sl s) (i + 3) 128 191 = g := ⟨_, rfl⟩
        rw [hg3]
        cases g3
        · have e : R = 0 := by rw [← HR.out]; simp [hg1, hg2, hg3]
          subst e
          go_wp2_with fail
          go_ret
          exact ⟨rfl, rfl⟩
        · have e : R = 4 := by rw [← HR.out]; simp [hg1, hg2, hg3]
          subst e
          go_wp2_with fail
          go_ret
          exact ⟨rfl, rfl⟩
  have e : R = 0 := by rw [← HR.out, if_neg c10]
  subst e
  by_cases d1 : z < 194
  · go_wp2_with fail
    go_ret
    exact ⟨rfl, rfl⟩
  have d2 : 244 < z := by omega
  go_wp2_with fail
  go_ret
  exact ⟨rfl, rfl⟩
end Go.Proofs.YthhpbonacefmaaaDoor
