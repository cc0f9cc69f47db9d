import Derived.Test.YtplcicbpkbamnabGreatDoorX7
import Derived.Laws.OwnMore
/- the reference: goes, size. -/
namespace Go.Proofs.YtplcicbpkbamnabGreatDoor.Lo.Na
open Go Go.RowKit

/-- is there a byte that goes on, from lo to hi? -/
def gs (l : List UInt8) (i : Nat) (lo hi : Int) : Bool := match l[i]? with
  | some b => decide (lo ≤ (b.toNat : Int)) && decide ((b.toNat : Int) ≤ hi)
  | none => false
set_option maxRecDepth 100000 in
set_option maxHeartbeats 2000000 in
theorem goes_c (s : ByteArray) (i : Nat) (lo hi : Int) (w : World) :
    Calls Tryz.prog 117 #[.string s, iv i, iv lo, iv hi] w fun e w' => e = .returned (.bool (gs (sl s) i lo hi)) ∧ w' = w := by
  go_enter Tryz.func117, Tryz.ntmps117
  by_cases hi1 : i < s.size
  · obtain ⟨b, hb⟩ : ∃ b, (sl s)[i]? = some b := ⟨_, List.getElem?_eq_getElem hi1⟩
    have hix := idx9' s i b hi1 hb
    have HB : Keep (gs (sl s) i lo hi = (decide (lo ≤ (b.toNat : Int)) && decide ((b.toNat : Int) ≤ hi))) := ⟨by unfold gs; rw [hb]⟩
    obtain ⟨z, hz⟩ : ∃ z : Int, (b.toNat : Int) = z := ⟨_, rfl⟩
    have hz0 : 0 ≤ z := by omega
    have hz1 : z < 256 := by have := b.toNat_lt; omega
    rw [hz] at hix HB
    clear hz hb
    by_cases h1 : lo ≤ z
    · rw [decide_eq_true h1] at HB
      by_cases h2 : z ≤ hi
      · rw [decide_eq_true h2] at HB
        go_wp2_with fail
        go_ret
        rw [HB.out]
        exact ⟨rfl, rfl⟩
      · rw [decide_eq_false h2] at HB
        go_wp2_with fail
        go_ret
        rw [HB.out]
        exact ⟨rfl, rfl⟩
    · rw [decide_eq_false h1] at HB
      go_wp2_with fail
      go_ret
      rw [HB.out]
      exact ⟨rfl, rfl⟩
  · have HB : Keep (gs (sl s) i lo hi = false) := ⟨by unfold gs; rw [List.getElem?_eq_none (by rw [sl_len]; omega)]⟩
    go_wp2_with fail
    go_ret
    rw [HB.out]
    exact ⟨rfl, rfl⟩

/-- how many bytes, by the reference -/
def szr (l : List UInt8) (i : Nat) (b : Int) : Int :=
  if b < 128 then 1
  else if 194 ≤ b ∧ b ≤ 223 then (if gs l (i + 1) 128 191 then 2 else 0)
  else if 224 ≤ b ∧ b ≤ 239 then (if gs l (i + 1) (if b = 224 then 160 else 128) (if b = 237 then 159 else 191) && gs l (i + 2) 128 191 then 3 else 0)
  else if 240 ≤ b ∧ b ≤ 244 then (if gs l (i + 1) (if b = 240 then 144 else 128) (if b = 244 then 143 else 191) && (gs l (i + 2) 128 191 && gs l (i + 3) 128 191) then 4 else 0)
  else 0
set_option maxRecDepth 100000 in
set_option maxHeartbeats 8000000 in
theorem size_c (s : ByteArray) (i : Nat) (b : UInt8) (w : World) (hi : i < s.size) (hs : s.size ≤ 281474976710656) (hb : (sl s)[i]? = some b) :
    Calls Tryz.prog 99 #[.string s, iv i] w fun e w' => e = .returned (iv (szr (sl s) i b.toNat)) ∧ w' = w := by
  go_enter Tryz.func99, Tryz.ntmps99
  have hix := idx9' s i b hi hb
  obtain ⟨z, hz⟩ : ∃ z : Int, (b.toNat : Int) = z := ⟨_, rfl⟩
  have hz0 : 0 ≤ z := by omega
  have hz1 : z < 256 := by have := b.toNat_lt; omega
  rw [hz] at hix ⊢
  clear hz hb
  obtain ⟨R, hR⟩ : ∃ R, szr (sl s) i z = R := ⟨_, rfl⟩
  rw [hR]
  unfold szr at hR
  have HR := Keep.mk hR
  clear hR
  by_cases c1 : z < 128
  · have e : R = 1 := by rw [← HR.out, if_pos c1]
    subst e
    go_wp2_with fail
    go_ret
    exact ⟨rfl, rfl⟩
  rw [if_neg c1] at HR
  by_cases c2 : 194 ≤ z ∧ z ≤ 223
  · rw [if_pos c2] at HR
    obtain ⟨c3, c4⟩ := c2
    go_wp2_with fail
    refine (goes_c s (i + 1) 128 191 _).mono ?_
    rintro e wq ⟨rfl, rfl⟩
    obtain ⟨g1, hg1⟩ : ∃ g, gs (sl s) (i + 1) 128 191 = g := ⟨_, rfl⟩
    rw [hg1]
    cases g1
    · have e : R = 0 := by rw [← HR.out]; simp [hg1]
      subst e
      go_wp2_with fail
      go_ret
      exact ⟨rfl, rfl⟩
    · have e : R = 2 := by rw [← HR.out]; simp [hg1]
      subst e
      go_wp2_with fail
      go_ret
      exact ⟨rfl, rfl⟩
  rw [if_neg c2] at HR
  by_cases c5 : 224 ≤ z ∧ z ≤ 239
  · rw [if_pos c5] at HR
    obtain ⟨c6, c7⟩ := c5
    by_cases c8 : z = 224
    · subst c8
      rw [show (if (224:Int) = 224 then (160:Int) else 128) = 160 from by decide, show (if (224:Int) = 237 then (159:Int) else 191) = 191 from by decide] at HR
      go_wp2_with fail
      refine (goes_c s (i + 1) 160 191 _).mono ?_
      rintro e wq ⟨rfl, rfl⟩
      obtain ⟨g1, hg1⟩ : ∃ g, gs (sl s) (i + 1) 160 191 = g := ⟨_, rfl⟩
      rw [hg1]
      cases g1
      · have e : R = 0 := by rw [← HR.out]; simp [hg1]
        subst e
        go_wp2_with fail
        go_ret
        exact ⟨rfl, rfl⟩
      · go_wp2_with fail
        refine (goes_c s (i + 2) 128 191 _).mono ?_
        rintro e wq ⟨rfl, rfl⟩
        obtain ⟨g2, hg2⟩ : ∃ g, gs (sl s) (i + 2) 128 191 = g := ⟨_, rfl⟩
        rw [hg2]
        cases g2
        · have e : R = 0 := by rw [← HR.out]; simp [hg1, hg2]
          subst e
          go_wp2_with fail
          go_ret
          exact ⟨rfl, rfl⟩
        · have e : R = 3 := by rw [← HR.out]; simp [hg1, hg2]
          subst e
          go_wp2_with fail
          go_ret
          exact ⟨rfl, rfl⟩
    by_cases c9 : z = 237
    · subst c9
      rw [show (if (237:Int) = 224 then (160:Int) else 128) = 128 from by decide, show (if (237:Int) = 237 then (159:Int) else 191) = 159 from by decide] at HR
      go_wp2_with fail
      refine (goes_c s (i + 1) 128 159 _).mono ?_
      rintro e wq ⟨rfl, rfl⟩
      obtain ⟨g1, hg1⟩ : ∃ g, gs (sl s) (i + 1) 128 159 = g := ⟨_, rfl⟩
      rw [hg1]
      cases g1
      · have e : R = 0 := by rw [← HR.out]; simp [hg1]
        subst e
        go_wp2_with fail
        go_ret
        exact ⟨rfl, rfl⟩
      · go_wp2_with fail
        refine (goes_c s (i + 2) 128 191 _).mono ?_
        rintro e wq ⟨rfl, rfl⟩
        obtain ⟨g2, hg2⟩ : ∃ g, gs (sl s) (i + 2) 128 191 = g := ⟨_, rfl⟩
        rw [hg2]
        cases g2
        · have e : R = 0 := by rw [← HR.out]; simp [hg1, hg2]
          subst e
          go_wp2_with fail
          go_ret
          exact ⟨rfl, rfl⟩
        · have e : R = 3 := by rw [← HR.out]; simp [hg1, hg2]
          subst e
          go_wp2_with fail
          go_ret
          exact ⟨rfl, rfl⟩
    rw [show (if z = 224 then (160:Int) else 128) = 128 from if_neg c8, show (if z = 237 then (159:Int) else 191) = 191 from if_neg c9] at HR
    clear c2
    go_wp2_with fail
    refine (goes_c s (i + 1) 128 191 _).mono ?_
    rintro e wq ⟨rfl, rfl⟩
    obtain ⟨g1, hg1⟩ : ∃ g, gs (sl s) (i + 1) 128 191 = g := ⟨_, rfl⟩
    rw [hg1]
    cases g1
    · have e : R = 0 := by rw [← HR.out]; simp [hg1]
      subst e
      go_wp2_with fail
      go_ret
      exact ⟨rfl, rfl⟩
    · go_wp2_with fail
      refine (goes_c s (i + 2) 128 191 _).mono ?_
      rintro e wq ⟨rfl, rfl⟩
      obtain ⟨g2, hg2⟩ : ∃ g, gs (sl s) (i + 2) 128 191 = g := ⟨_, rfl⟩
      rw [hg2]
      cases g2
      · have e : R = 0 := by rw [← HR.out]; simp [hg1, hg2]
        subst e
        go_wp2_with fail
        go_ret
        exact ⟨rfl, rfl⟩
      · have e : R = 3 := by rw [← HR.out]; simp [hg1, hg2]
        subst e
        go_wp2_with fail
        go_ret
        exact ⟨rfl, rfl⟩
  rw [if_neg c5] at HR
  by_cases c10 : 240 ≤ z ∧ z ≤ 244
  · rw [if_pos c10] at HR
    obtain ⟨c11, c12⟩ := c10
    by_cases c13 : z = 240
    · subst c13
      rw [show (if (240:Int) = 240 then (144:Int) else 128) = 144 from by decide, show (if (240:Int) = 244 then (143:Int) else 191) = 191 from by decide] at HR
      go_wp2_with fail
      refine (goes_c s (i + 1) 144 191 _).mono ?_
      rintro e wq ⟨rfl, rfl⟩
      obtain ⟨g1, hg1⟩ : ∃ g, gs (sl s) (i + 1) 144 191 = g := ⟨_, rfl⟩
      rw [hg1]
      cases g1
      · have e : R = 0 := by rw [← HR.out]; simp [hg1]
        subst e
        go_wp2_with fail
        go_ret
        exact ⟨rfl, rfl⟩
      · go_wp2_with fail
        refine (goes_c s (i + 2) 128 191 _).mono ?_
        rintro e wq ⟨rfl, rfl⟩
        obtain ⟨g2, hg2⟩ : ∃ g, gs (sl s) (i + 2) 128 191 = g := ⟨_, rfl⟩
        rw [hg2]
        cases g2
        · have e : R = 0 := by rw [← HR.out]; simp [hg1, hg2]
          subst e
          go_wp2_with fail
          go_ret
          exact ⟨rfl, rfl⟩
        · go_wp2_with fail
          refine (goes_c s (i + 3) 128 191 _).mono ?_
          rintro e wq ⟨rfl, rfl⟩
          obtain ⟨g3, hg3⟩ : ∃ g, gs (sl s) (i + 3) 128 191 = g := ⟨_, rfl⟩
          rw [hg3]
          cases g3
          · have e : R = 0 := by rw [← HR.out]; simp [hg1, hg2, hg3]
            subst e
            go_wp2_with fail
            go_ret
            exact ⟨rfl, rfl⟩
          · have e : R = 4 := by rw [← HR.out]; simp [hg1, hg2, hg3]
            subst e
            go_wp2_with fail
            go_ret
            exact ⟨rfl, rfl⟩
    by_cases c14 : z = 244
    · subst c14
      rw [show (if (244:Int) = 240 then (144:Int) else 128) = 128 from by decide, show (if (244:Int) = 244 then (143:Int) else 191) = 143 from by decide] at HR
      go_wp2_with fail
      refine (goes_c s (i + 1) 128 143 _).mono ?_
      rintro e wq ⟨rfl, rfl⟩
      obtain ⟨g1, hg1⟩ : ∃ g, gs (sl s) (i + 1) 128 143 = g := ⟨_, rfl⟩
      rw [hg1]
      cases g1
      · have e : R = 0 := by rw [← HR.out]; simp [hg1]
        subst e
        go_wp2_with fail
        go_ret
        exact ⟨rfl, rfl⟩
      · go_wp2_with fail
        refine (goes_c s (i + 2) 128 191 _).mono ?_
        rintro e wq ⟨rfl, rfl⟩
        obtain ⟨g2, hg2⟩ : ∃ g, gs (sl s) (i + 2) 128 191 = g := ⟨_, rfl⟩
        rw [hg2]
        cases g2
        · have e : R = 0 := by rw [← HR.out]; simp [hg1, hg2]
          subst e
          go_wp2_with fail
          go_ret
          exact ⟨rfl, rfl⟩
        · go_wp2_with fail
          refine (goes_c s (i + 3) 128 191 _).mono ?_
          rintro e wq ⟨rfl, rfl⟩
          obtain ⟨g3, hg3⟩ : ∃ g, gs (sl s) (i + 3) 128 191 = g := ⟨_, rfl⟩
          rw [hg3]
          cases g3
          · have e : R = 0 := by rw [← HR.out]; simp [hg1, hg2, hg3]
            subst e
            go_wp2_with fail
            go_ret
            exact ⟨rfl, rfl⟩
          · have e : R = 4 := by rw [← HR.out]; simp [hg1, hg2, hg3]
            subst e
            go_wp2_with fail
            go_ret
            exact ⟨rfl, rfl⟩
    rw [show (if z = 240 then (144:Int) else 128) = 128 from if_neg c13, show (if z = 244 then (143:Int) else 191) = 191 from if_neg c14] at HR
    clear c2 c5
    go_wp2_with fail
    refine (goes_c s (i + 1) 128 191 _).mono ?_
    rintro e wq ⟨rfl, rfl⟩
    obtain ⟨g1, hg1⟩ : ∃ g, gs (sl s) (i + 1) 128 191 = g := ⟨_, rfl⟩
    rw [hg1]
    cases g1
    · have e : R = 0 := by rw [← HR.out]; simp [hg1]
      subst e
      go_wp2_with fail
      go_ret
      exact ⟨rfl, rfl⟩
    · go_wp2_with fail
      refine (goes_c s (i + 2) 128 191 _).mono ?_
      rintro e wq ⟨rfl, rfl⟩
      obtain ⟨g2, hg2⟩ : ∃ g, gs (sl s) (i + 2) 128 191 = g := ⟨_, rfl⟩
      rw [hg2]
      cases g2
      · have e : R = 0 := by rw [← HR.out]; simp [hg1, hg2]
        subst e
        go_wp2_with fail
        go_ret
        exact ⟨rfl, rfl⟩
      · go_wp2_with fail
        refine (goes_c s (i + 3) 128 191 _).mono ?_
        rintro e wq ⟨rfl, rfl⟩
        obtain ⟨g3, hg3⟩ : ∃ g, gs (sl s) (i + 3) 128 191 = g := ⟨_, rfl⟩
        rw [hg3]
        cases g3
        · have e : R = 0 := by rw [← HR.out]; simp [hg1, hg2, hg3]
          subst e
          go_wp2_with fail
          go_ret
          exact ⟨rfl, rfl⟩
        · have e : R = 4 := by rw [← HR.out]; simp [hg1, hg2, hg3]
          subst e
          go_wp2_with fail
          go_ret
          exact ⟨rfl, rfl⟩
  have e : R = 0 := by rw [← HR.out, if_neg c10]
  subst e
  by_cases d1 : z < 194
  · go_wp2_with fail
    go_ret
    exact ⟨rfl, rfl⟩
  have d2 : 244 < z := by omega
  go_wp2_with fail
  go_ret
  exact ⟨rfl, rfl⟩
end Go.Proofs.YtplcicbpkbamnabGreatDoor.Lo.Na

/- the reference: size against the runes; number. -/
namespace Go.Proofs.YtplcicbpkbamnabGreatDoor.Lo.Na
open Go Go.RowKit

set_option maxRecDepth 100000 in
theorem gs_drop (l : List UInt8) (i k : Nat) (lo hi : Int) : gs (l.drop i) k lo hi = gs l (i + k) lo hi := by
  unfold gs; rw [List.getElem?_drop]
set_option maxRecDepth 100000 in
theorem szr_drop (l : List UInt8) (i : Nat) (b : Int) : szr l i b = szr (l.drop i) 0 b := by
  unfold szr
  simp only [gs_drop, Nat.zero_add]
set_option maxRecDepth 100000 in
theorem gs_some {l : List UInt8} {k : Nat} {c : UInt8} (h : l[k]? = some c) (lo hi : Int) : gs l k lo hi = (decide (lo ≤ (c.toNat : Int)) && decide ((c.toNat : Int) ≤ hi)) := by
  unfold gs; rw [h]
set_option maxRecDepth 100000 in
theorem gs_true {l : List UInt8} {k : Nat} {lo hi : Int} (h : gs l k lo hi = true) : ∃ c, l[k]? = some c ∧ lo ≤ (c.toNat : Int) ∧ (c.toNat : Int) ≤ hi := by
  unfold gs at h
  cases hc : l[k]? with
  | none => rw [hc] at h; cases h
  | some c => rw [hc] at h; simp at h; exact ⟨c, rfl, h.1, h.2⟩
/-- the number that bytes say -/
def nst (n : Int) (b : UInt8) : Int := 64 * n + b.toNat - 128
def n0 (x : List UInt8) : Int := ((x.getD 0 0).toNat : Int) - (if x.length = 2 then 192 else if x.length = 3 then 224 else if x.length = 4 then 240 else 0)
def nmb (x : List UInt8) : Int := (x.drop 1).foldl nst (n0 x)

set_option maxRecDepth 100000 in
theorem szr_spec (b : UInt8) (t : List UInt8) : (dec (b :: t) = (65533, 1) ∧ 128 ≤ b.toNat ∧ szr (b :: t) 0 b.toNat = 0) ∨
    (szr (b :: t) 0 b.toNat = ((dec (b :: t)).2 : Int) ∧ nmb ((b :: t).take (dec (b :: t)).2) = ((dec (b :: t)).1 : Int)) := by
  have hb2 := b.toNat_lt
  cases form b t with
  | one h t =>
    right
    rw [dec_ascii h]
    refine ⟨by unfold szr; rw [if_pos (by omega)]; rfl, ?_⟩
    simp [nmb, n0]
  | @two c h hc hv t =>
    right
    have hc2 := c.toNat_lt
    rw [dec_two h hc hv]
    refine ⟨?_, ?_⟩
    · unfold szr
      rw [if_neg (by omega), if_pos (by omega), gs_some (c := c) rfl, decide_eq_true (by omega), decide_eq_true (by omega)]
      rfl
    · simp [nmb, n0, nst]; omega
  | @three c d h hc hd hv t =>
    right
    have hc2 := c.toNat_lt
    have hd2 := d.toNat_lt
    rw [dec_three h hc hd hv]
    refine ⟨?_, ?_⟩
    · unfold szr
      rw [if_neg (by omega), if_neg (by omega), if_pos (by omega), gs_some (c := c) rfl, gs_some (c := d) rfl, decide_eq_true (by split <;> omega), decide_eq_true (by split <;> omega), decide_eq_true (by omega), decide_eq_true (by omega)]
      rfl
    · simp [nmb, n0, nst]; omega
  | @four c d e h hc hd he hv t =>
    right
    have hc2 := c.toNat_lt
    have hd2 := d.toNat_lt
    have he2 := e.toNat_lt
    rw [dec_four h hc hd he hv]
    refine ⟨?_, ?_⟩
    · unfold szr
      rw [if_neg (by omega), if_neg (by omega), if_neg (by omega), if_pos (by omega), gs_some (c := c) rfl, gs_some (c := d) rfl, gs_some (c := e) rfl, decide_eq_true (by split <;> omega), decide_eq_true (by split <;> omega), decide_eq_true (by omega), decide_eq_true (by omega), decide_eq_true (by omega), decide_eq_true (by omega)]
      rfl
    · simp [nmb, n0, nst]; omega
  | odd h hb =>
    left
    refine ⟨h, hb, ?_⟩
    unfold szr
    rw [if_neg (by omega)]
    split
    · rename_i hr
      by_cases g : gs (b :: t) (0 + 1) 128 191 = true
      · exfalso
        obtain ⟨c, hc, c1, c2⟩ := gs_true g
        match t, hc with
        | c' :: t', hc =>
          cases hc
          rw [dec_two (by omega) (by omega) (by omega)] at h
          have := congrArg Prod.snd h
          simp at this
      · rw [if_neg g]
    · split
      · rename_i hr
        by_cases g : (gs (b :: t) (0 + 1) (if (b.toNat : Int) = 224 then 160 else 128) (if (b.toNat : Int) = 237 then 159 else 191) && gs (b :: t) (0 + 2) 128 191) = true
        · exfalso
          rw [Bool.and_eq_true] at g
          obtain ⟨c, hc, c1, c2⟩ := gs_true g.1
          obtain ⟨d, hd, d1, d2⟩ := gs_true g.2
          match t, hc, hd with
          | c' :: d' :: t', hc, hd =>
            cases hc
            cases hd
            rw [dec_three (by omega) (by split at c1 <;> split at c2 <;> omega) (by omega) (by split at c1 <;> split at c2 <;> omega)] at h
            have := congrArg Prod.snd h
            simp at this
        · rw [if_neg g]
      · split
        · rename_i hr
          by_cases g : (gs (b :: t) (0 + 1) (if (b.toNat : Int) = 240 then 144 else 128) (if (b.toNat : Int) = 244 then 143 else 191) && (gs (b :: t) (0 + 2) 128 191 && gs (b :: t) (0 + 3) 128 191)) = true
          · exfalso
            rw [Bool.and_eq_true, Bool.and_eq_true] at g
            obtain ⟨c, hc, c1, c2⟩ := gs_true g.1
            obtain ⟨d, hd, d1, d2⟩ := gs_true g.2.1
            obtain ⟨e, he, e1, e2⟩ := gs_true g.2.2
            match t, hc, hd, he with
            | c' :: d' :: e' :: t', hc, hd, he =>
              cases hc
              cases hd
              cases he
              rw [dec_four (by omega) (by split at c1 <;> split at c2 <;> omega) (by omega) (by omega) (by split at c1 <;> split at c2 <;> omega)] at h
              have := congrArg Prod.snd h
              simp at this
          · rw [if_neg g]
        · rfl

set_option maxRecDepth 100000 in
set_option maxHeartbeats 8000000 in
theorem number_c (x : ByteArray) (w : World) (h1 : 1 ≤ x.size) (h4 : x.size ≤ 4) :
    Calls Tryz.prog 100 #[.string x] w fun e w' => e = .returned (iv (nmb (sl x))) ∧ w' = w := by
  have hall : ∀ k, k < x.size → ∃ b : UInt8, (sl x)[k]? = some b := fun k hk => ⟨_, List.getElem?_eq_getElem hk⟩
  obtain ⟨b, hb⟩ := hall 0 (by omega)
  have hix : ∀ W, (Instr.index 9 (.string x) (.int .i64 0)).run Tryz.prog W = .ok (.int .u8 b.toNat) W := idx9' x 0 b (by omega) hb
  have HA := Keep.mk hall
  clear hall
  obtain ⟨z, hz⟩ : ∃ z : Int, (b.toNat : Int) = z := ⟨_, rfl⟩
  have hz0 : 0 ≤ z := by omega
  have hz1 : z < 256 := by have := b.toNat_lt; omega
  rw [hz] at hix
  have hn0 : n0 (sl x) = z - (if x.size = 2 then 192 else if x.size = 3 then 224 else if x.size = 4 then 240 else 0) := by
    unfold n0
    rw [sl_len, ← hz]
    simp [List.getD, hb]
  clear hz hb
  obtain ⟨N0, hN0⟩ : ∃ q, n0 (sl x) = q := ⟨_, rfl⟩
  rw [hN0] at hn0
  have HN0 := Keep.mk hN0
  have HN1 := Keep.mk hn0
  have hnb : -240 ≤ N0 ∧ N0 ≤ 255 := by rw [hn0]; repeat' split
                                        all_goals omega
  clear hN0 hn0
  obtain ⟨R, hR⟩ : ∃ R, nmb (sl x) = R := ⟨_, rfl⟩
  rw [hR]
  have HR := Keep.mk hR
  clear hR
  go_enter Tryz.func100, Tryz.ntmps100
  by_cases hsz : x.size = 1
  · skip
    have e : N0 = z := by rw [HN1.out]; simp [hsz]
    have HE := Keep.mk e
    clear e
    go_wp2_with fail
    go_loopw [3, 4] (fun v i w' => ∃ (k : Nat) (n : Int), i = .int .i64 k ∧ v = .int .i64 n ∧ 1 ≤ k ∧ k ≤ 1 ∧ w' = w ∧ Keep ((((sl x).drop 1).take (k - 1)).foldl nst N0 = n) ∧ (k = 1 → -300 ≤ n ∧ n ≤ 300) ∧ (k = 2 → -20000 ≤ n ∧ n ≤ 20000) ∧ (k = 3 → -2000000 ≤ n ∧ n ≤ 2000000) ∧ (k = 4 → -200000000 ≤ n ∧ n ≤ 200000000)) (fun _ i _ => 1 - (intOf i).toNat)
    case atStart => exact ⟨1, z, rfl, rfl, by omega, by omega, rfl, ⟨by rw [HE.out]; rfl⟩, by omega, by omega, by omega, by omega⟩
    case round =>
      obtain ⟨k, n, rfl, rfl, hk1, hk2, rfl, HF, q1, q2, q3, q4⟩ := hrel
      by_cases hk : k = 1
      · subst hk
        have e : R = n := by
          rw [← HR.out, ← HF.out, nmb, HN0.out]
          congr 1
          rw [List.take_of_length_le (by rw [List.length_drop, sl_len]; omega)]
        subst e
        go_wp2_with fail
        go_ret
        exact ⟨rfl, rfl⟩
      · exfalso; omega
  have hne1 : x.size ≠ 1 := hsz
  clear hsz
  by_cases hsz : x.size = 2
  · skip
    have e : N0 = z - 192 := by rw [HN1.out]; simp [hsz]
    have HE := Keep.mk e
    clear e
    go_wp2_with fail
    go_loopw [3, 4] (fun v i w' => ∃ (k : Nat) (n : Int), i = .int .i64 k ∧ v = .int .i64 n ∧ 1 ≤ k ∧ k ≤ 2 ∧ w' = w ∧ Keep ((((sl x).drop 1).take (k - 1)).foldl nst N0 = n) ∧ (k = 1 → -300 ≤ n ∧ n ≤ 300) ∧ (k = 2 → -20000 ≤ n ∧ n ≤ 20000) ∧ (k = 3 → -2000000 ≤ n ∧ n ≤ 2000000) ∧ (k = 4 → -200000000 ≤ n ∧ n ≤ 200000000)) (fun _ i _ => 2 - (intOf i).toNat)
    case atStart => exact ⟨1, z - 192, rfl, rfl, by omega, by omega, rfl, ⟨by rw [HE.out]; rfl⟩, by omega, by omega, by omega, by omega⟩
    case round =>
      obtain ⟨k, n, rfl, rfl, hk1, hk2, rfl, HF, q1, q2, q3, q4⟩ := hrel
      by_cases hk : k = 2
      · subst hk
        have e : R = n := by
          rw [← HR.out, ← HF.out, nmb, HN0.out]
          congr 1
          rw [List.take_of_length_le (by rw [List.length_drop, sl_len]; omega)]
        subst e
        go_wp2_with fail
        go_ret
        exact ⟨rfl, rfl⟩
      · obtain ⟨c, hc⟩ := HA.out k (by omega)
        have hix2 := idx9' x k c (by omega) hc
        obtain ⟨y, hy⟩ : ∃ y : Int, (c.toNat : Int) = y := ⟨_, rfl⟩
        have hy0 : 0 ≤ y := by omega
        have hy1 : y < 256 := by have := c.toNat_lt; omega
        rw [hy] at hix2
        have HF2 : Keep ((((sl x).drop 1).take (k + 1 - 1)).foldl nst N0 = 64 * n + y - 128) := ⟨by
          rw [show k + 1 - 1 = (k - 1) + 1 by omega, List.take_add_one, List.getElem?_drop, show 1 + (k - 1) = k by omega, hc, List.foldl_append, HF.out]
          simp [nst, hy]⟩
        have hnb2 : -2000000 ≤ n ∧ n ≤ 2000000 := by omega
        have HQ : Keep ((k + 1 = 1 → -300 ≤ 64 * n + y - 128 ∧ 64 * n + y - 128 ≤ 300) ∧ (k + 1 = 2 → -20000 ≤ 64 * n + y - 128 ∧ 64 * n + y - 128 ≤ 20000) ∧ (k + 1 = 3 → -2000000 ≤ 64 * n + y - 128 ∧ 64 * n + y - 128 ≤ 2000000) ∧ (k + 1 = 4 → -200000000 ≤ 64 * n + y - 128 ∧ 64 * n + y - 128 ≤ 200000000)) := ⟨by omega⟩
        clear hy hc q1 q2 q3 q4 HF
        go_wp2_with fail
        go_roundw
        case rel => exact ⟨k + 1, _, by simp, rfl, by omega, by omega, (by first | rfl | trivial), HF2, HQ.out.1, HQ.out.2.1, HQ.out.2.2.1, HQ.out.2.2.2⟩
        case measure => simp [intOf]; omega
  have hne2 : x.size ≠ 2 := hsz
  clear hsz
  by_cases hsz : x.size = 3
  · skip
    have e : N0 = z - 224 := by rw [HN1.out]; simp [hsz]
    have HE := Keep.mk e
    clear e
    go_wp2_with fail
    go_loopw [3, 4] (fun v i w' => ∃ (k : Nat) (n : Int), i = .int .i64 k ∧ v = .int .i64 n ∧ 1 ≤ k ∧ k ≤ 3 ∧ w' = w ∧ Keep ((((sl x).drop 1).take (k - 1)).foldl nst N0 = n) ∧ (k = 1 → -300 ≤ n ∧ n ≤ 300) ∧ (k = 2 → -20000 ≤ n ∧ n ≤ 20000) ∧ (k = 3 → -2000000 ≤ n ∧ n ≤ 2000000) ∧ (k = 4 → -200000000 ≤ n ∧ n ≤ 200000000)) (fun _ i _ => 3 - (intOf i).toNat)
    case atStart => exact ⟨1, z - 224, rfl, rfl, by omega, by omega, rfl, ⟨by rw [HE.out]; rfl⟩, by omega, by omega, by omega, by omega⟩
    case round =>
      obtain ⟨k, n, rfl, rfl, hk1, hk2, rfl, HF, q1, q2, q3, q4⟩ := hrel
      by_cases hk : k = 3
      · subst hk
        have e : R = n := by
          rw [← HR.out, ← HF.out, nmb, HN0.out]
          congr 1
          rw [List.take_of_length_le (by rw [List.length_drop, sl_len]; omega)]
        subst e
        go_wp2_with fail
        go_ret
        exact ⟨rfl, rfl⟩
      · obtain ⟨c, hc⟩ := HA.out k (by omega)
        have hix2 := idx9' x k c (by omega) hc
        obtain ⟨y, hy⟩ : ∃ y : Int, (c.toNat : Int) = y := ⟨_, rfl⟩
        have hy0 : 0 ≤ y := by omega
        have hy1 : y < 256 := by have := c.toNat_lt; omega
        rw [hy] at hix2
        have HF2 : Keep ((((sl x).drop 1).take (k + 1 - 1)).foldl nst N0 = 64 * n + y - 128) := ⟨by
          rw [show k + 1 - 1 = (k - 1) + 1 by omega, List.take_add_one, List.getElem?_drop, show 1 + (k - 1) = k by omega, hc, List.foldl_append, HF.out]
          simp [nst, hy]⟩
        have hnb2 : -2000000 ≤ n ∧ n ≤ 2000000 := by omega
        have HQ : Keep ((k + 1 = 1 → -300 ≤ 64 * n + y - 128 ∧ 64 * n + y - 128 ≤ 300) ∧ (k + 1 = 2 → -20000 ≤ 64 * n + y - 128 ∧ 64 * n + y - 128 ≤ 20000) ∧ (k + 1 = 3 → -2000000 ≤ 64 * n + y - 128 ∧ 64 * n + y - 128 ≤ 2000000) ∧ (k + 1 = 4 → -200000000 ≤ 64 * n + y - 128 ∧ 64 * n + y - 128 ≤ 200000000)) := ⟨by omega⟩
        clear hy hc q1 q2 q3 q4 HF
        go_wp2_with fail
        go_roundw
        case rel => exact ⟨k + 1, _, by simp, rfl, by omega, by omega, (by first | rfl | trivial), HF2, HQ.out.1, HQ.out.2.1, HQ.out.2.2.1, HQ.out.2.2.2⟩
        case measure => simp [intOf]; omega
  have hne3 : x.size ≠ 3 := hsz
  clear hsz
  have hsz : x.size = 4 := by omega
  clear hne1 hne2 hne3
  have e : N0 = z - 240 := by rw [HN1.out]; simp [hsz]
  have HE := Keep.mk e
  clear e
  go_wp2_with fail
  go_loopw [3, 4] (fun v i w' => ∃ (k : Nat) (n : Int), i = .int .i64 k ∧ v = .int .i64 n ∧ 1 ≤ k ∧ k ≤ 4 ∧ w' = w ∧ Keep ((((sl x).drop 1).take (k - 1)).foldl nst N0 = n) ∧ (k = 1 → -300 ≤ n ∧ n ≤ 300) ∧ (k = 2 → -20000 ≤ n ∧ n ≤ 20000) ∧ (k = 3 → -2000000 ≤ n ∧ n ≤ 2000000) ∧ (k = 4 → -200000000 ≤ n ∧ n ≤ 200000000)) (fun _ i _ => 4 - (intOf i).toNat)
  case atStart => exact ⟨1, z - 240, rfl, rfl, by omega, by omega, rfl, ⟨by rw [HE.out]; rfl⟩, by omega, by omega, by omega, by omega⟩
  case round =>
    obtain ⟨k, n, rfl, rfl, hk1, hk2, rfl, HF, q1, q2, q3, q4⟩ := hrel
    by_cases hk : k = 4
    · subst hk
      have e : R = n := by
        rw [← HR.out, ← HF.out, nmb, HN0.out]
        congr 1
        rw [List.take_of_length_le (by rw [List.length_drop, sl_len]; omega)]
      subst e
      go_wp2_with fail
      go_ret
      exact ⟨rfl, rfl⟩
    · obtain ⟨c, hc⟩ := HA.out k (by omega)
      have hix2 := idx9' x k c (by omega) hc
      obtain ⟨y, hy⟩ : ∃ y : Int, (c.toNat : Int) = y := ⟨_, rfl⟩
      have hy0 : 0 ≤ y := by omega
      have hy1 : y < 256 := by have := c.toNat_lt; omega
      rw [hy] at hix2
      have HF2 : Keep ((((sl x).drop 1).take (k + 1 - 1)).foldl nst N0 = 64 * n + y - 128) := ⟨by
        rw [show k + 1 - 1 = (k - 1) + 1 by omega, List.take_add_one, List.getElem?_drop, show 1 + (k - 1) = k by omega, hc, List.foldl_append, HF.out]
        simp [nst, hy]⟩
      have hnb2 : -2000000 ≤ n ∧ n ≤ 2000000 := by omega
      have HQ : Keep ((k + 1 = 1 → -300 ≤ 64 * n + y - 128 ∧ 64 * n + y - 128 ≤ 300) ∧ (k + 1 = 2 → -20000 ≤ 64 * n + y - 128 ∧ 64 * n + y - 128 ≤ 20000) ∧ (k + 1 = 3 → -2000000 ≤ 64 * n + y - 128 ∧ 64 * n + y - 128 ≤ 2000000) ∧ (k + 1 = 4 → -200000000 ≤ 64 * n + y - 128 ∧ 64 * n + y - 128 ≤ 200000000)) := ⟨by omega⟩
      clear hy hc q1 q2 q3 q4 HF
      go_wp2_with fail
      go_roundw
      case rel => exact ⟨k + 1, _, by simp, rfl, by omega, by omega, (by first | rfl | trivial), HF2, HQ.out.1, HQ.out.2.1, HQ.out.2.2.1, HQ.out.2.2.2⟩
      case measure => simp [intOf]; omega
end Go.Proofs.YtplcicbpkbamnabGreatDoor.Lo.Na

/- rows of bytes of the call's own: slices of them, append. -/
namespace Go.Proofs.YtplcicbpkbamnabGreatDoor.Lo.Na
open Go Go.RowKit

set_option maxRecDepth 100000 in
theorem info5 : ∃ i, Tryz.prog.info? 5 = some i ∧ i.size = 1 ∧ i.bytes = 1 ∧ i.zero = some (.int .u8 0) := ⟨_, rfl, by kernel_rfl, by kernel_rfl, by kernel_rfl⟩
abbrev bvs (l : List UInt8) : List Value := l.map fun x => bv x
/-- a row of the call's own -/
abbrev Row (B : Nat) (w : World) (v : Value) (xs : List UInt8) : Prop := w.ownsRow B 5 1 v xs.length (bvs xs)
/-- a slice that shows such bytes -/
def Src (w : World) (A : Option Addr) (m c : Nat) (ys : List UInt8) : Prop := m = ys.length ∧ m ≤ c ∧ (A = none → c = 0) ∧ ∀ ad, A = some ad → ∀ (j : Nat) x, ys[j]? = some x → w.cell? (ad.add j) = some (bv x)
set_option maxRecDepth 100000 in
theorem Row.lt {B : Nat} {w : World} {v : Value} {xs : List UInt8} (h : Row B w v xs) {k : Nat} (e : v.ownBlock = some k) : B ≤ k ∧ k < w.heap.size := by
  obtain ⟨_, h2⟩ := h
  rcases h2 with ⟨rfl, _⟩ | ⟨g, cap, cur, rfl, a, b, c⟩
  · cases e
  · cases e; exact ⟨a, (Array.getElem?_eq_some_iff.1 b).1⟩
set_option maxRecDepth 100000 in
theorem Row.kept {B : Nat} {w w' : World} {v : Value} {xs : List UInt8} {row : Option Nat} (h : Row B w v xs) (hg : w.grownBy w' row) (hne : ∀ k, v.ownBlock = some k → row ≠ some k) : Row B w' v xs := by
  have hl : ∀ k, v.ownBlock = some k → k < w.heap.size := fun k e => (Row.lt h e).2
  obtain ⟨h1, h2⟩ := h
  refine ⟨h1, ?_⟩
  rcases h2 with h2 | ⟨g, cap, cur, rfl, a, b, c⟩
  · exact .inl h2
  · exact .inr ⟨g, cap, cur, rfl, a, by rw [hg.block g (hl g rfl) (fun e => hne g rfl e.symm), b], c⟩
set_option maxRecDepth 100000 in
theorem Row.src {B : Nat} {w : World} {v : Value} {xs : List UInt8} (h : Row B w v xs) : ∃ A c, v = .slice A xs.length c ∧ Src w A xs.length c xs := by
  have hc := fun g (hv : v.ownBlock = some g) => World.ownsRow.cells (w := w) h (g := g) hv
  obtain ⟨h1, h2⟩ := h
  rcases h2 with ⟨rfl, h0⟩ | ⟨g, cap, cur, rfl, hb, hheap, h1, h2, h3, h4⟩
  · refine ⟨none, 0, by rw [h0], rfl, by omega, fun _ => rfl, fun _ e => (by cases e)⟩
  · refine ⟨_, cap, rfl, rfl, h1, fun e => (by cases e), fun ad e j x hx => ?_⟩
    cases e
    exact hc g rfl j _ (by rw [List.getElem?_map, hx]; rfl)
set_option maxRecDepth 100000 in
theorem Row.nil (B : Nat) (w : World) : Row B w (.slice none 0 0) [] := ⟨rfl, .inl ⟨rfl, rfl⟩⟩
set_option maxRecDepth 100000 in
theorem Src.kept {w w' : World} {A : Option Addr} {m c : Nat} {ys : List UInt8} {row : Option Nat} (h : Src w A m c ys) (hg : w.grownBy w' row) (hne : ∀ ad, A = some ad → row ≠ some ad.block) : Src w' A m c ys := by
  refine ⟨h.1, h.2.1, h.2.2.1, fun ad e j x hx => ?_⟩
  have := h.2.2.2 ad e j x hx
  have hb : (ad.add j).block = ad.block := by unfold Addr.add; split <;> rfl
  exact hg.cell this (by rw [hb]; exact fun e2 => hne ad e e2.symm)
set_option maxRecDepth 100000 in
theorem add_zero' (a : Addr) : a.add 0 = a := by
  unfold Addr.add
  split <;> simp_all
set_option maxRecDepth 100000 in
theorem add_add' (a : Addr) (i j : Nat) : (a.add i).add j = a.add (i + j) := by
  unfold Addr.add
  by_cases hi : i = 0
  · subst hi; simp
  · by_cases hj : j = 0
    · subst hj; simp
    · simp [hi, hj, Nat.add_assoc]
set_option maxRecDepth 100000 in
theorem slc_h (A : Option Addr) (n c p : Nat) (hp : p ≤ c) (W : World) : (Instr.slice 120 (.slice A n c) none (some (.int .i64 (p : Int))) none).run Tryz.prog W = .ok (.slice A p c) W := by
  have z : (sizeOf (Tryz.prog.elem 120)).run Tryz.prog W = .ok 1 W := by kernel_rfl
  rw [run_slice_h W 120 A n c (by kernel_rfl) .i64 p (by omega) (by omega), z]
  have e : A.map (·.add (0 * 1)) = A := by cases A <;> simp [add_zero']
  simp only [Result.andThen, sliced, e, Int.toNat_natCast, Nat.sub_zero, ite_self]
set_option maxRecDepth 100000 in
theorem Src.take {w : World} {A : Option Addr} {m c : Nat} {ys : List UInt8} (h : Src w A m c ys) (p : Nat) (hp : p ≤ m) : Src w A p c (ys.take p) := by
  obtain ⟨h1, h2, h3, h4⟩ := h
  refine ⟨by rw [List.length_take]; omega, by omega, h3, fun ad e j x hx => ?_⟩
  rw [List.getElem?_take] at hx
  split at hx
  · exact h4 ad e j x hx
  · cases hx
set_option maxRecDepth 100000 in
theorem slc_l (A : Option Addr) (n c p : Nat) (hp : p ≤ n) (hc : n ≤ c) (hA : A = none → c = 0) : ∃ A1, (A1 = none → c = 0) ∧ (∀ ad, A1 = some ad → ∃ a0, A = some a0 ∧ ad.block = a0.block) ∧ (∀ W : World, (Instr.slice 120 (.slice A n c) (some (.int .i64 (p : Int))) none none).run Tryz.prog W = .ok (.slice A1 (n - p) (c - p)) W) ∧ ∀ (w : World) (q : List UInt8), Src w A n c q → Src w A1 (n - p) (c - p) (q.drop p) := by
  refine ⟨if c = p then A else A.map (·.add (p * 1)), fun e => ?_, fun ad e => ?_, fun W => ?_, fun w q h => ⟨by rw [List.length_drop, ← h.1], by omega, fun e => ?_, fun ad e j x hx => ?_⟩⟩
  · split at e
    · exact hA e
    · cases A with
      | none => exact hA rfl
      | some a => cases e
  · split at e
    · exact ⟨ad, e, rfl⟩
    · cases A with
      | none => cases e
      | some a => cases e; exact ⟨a, rfl, by unfold Addr.add; split <;> rfl⟩
  · have z : (sizeOf (Tryz.prog.elem 120)).run Tryz.prog W = .ok 1 W := by kernel_rfl
    rw [run_slice_l W 120 A n c (by kernel_rfl) .i64 p (by omega) (by omega), z]
    simp only [Result.andThen, sliced, Int.toNat_natCast]
  · have : c = 0 := by
      split at e
      · exact hA e
      · cases A with
        | none => exact hA rfl
        | some a => cases e
    omega
  · obtain ⟨h1, h2, h3, h4⟩ := h
    rw [List.getElem?_drop] at hx
    have hlt := (List.getElem?_eq_some_iff.1 hx).1
    rw [if_neg (by omega)] at e
    cases A with
    | none => cases e
    | some a =>
      cases e
      rw [add_add']
      have := h4 a rfl _ _ hx
      rwa [Nat.mul_one]
/-- append of what a slice shows -/
theorem app_src {B : Nat} {w : World} {v : Value} {xs ys : List UInt8} {A : Option Addr} {m c : Nat} (h : Row B w v xs) (hs : Src w A m c ys) (hz : xs.length + ys.length ≤ 1000000) (hB : B ≤ w.heap.size) :
    ∃ v' w', (Builtin.append_ #[120, 120] 120 #[v, .slice A m c]).run Tryz.prog w = .ok v' w' ∧ Row B w' v' (xs ++ ys) ∧ w.grownBy w' v.ownBlock ∧ (v'.ownBlock = v.ownBlock ∨ v'.ownBlock = some w.heap.size) := by
  obtain ⟨i, h1, h2, h3, h4⟩ := info5
  obtain ⟨s1, s2, s3, s4⟩ := hs
  cases A with
  | none =>
    have hc := s3 rfl
    have hm : m = 0 := by omega
    subst hm hc
    obtain rfl : ys = [] := List.eq_nil_of_length_eq_zero s1.symm
    have := run_append_owned_none (P := Tryz.prog) (w := w) B 120 120 5 i 1 underBy h1 v xs.length _ h
    refine ⟨v, w, this, by rw [List.append_nil]; exact h, World.grownBy.refl _ _, .inl rfl⟩
  | some ad =>
    obtain ⟨v', w', r1, r2, r3, _, r5⟩ := run_append_own_at (P := Tryz.prog) w B 120 120 5 i (.int .u8 0) 1 1 underBy h1 h4 h2 h3 rfl (by decide) v xs.length _ h ad m c (bvs ys) (by simp [s1]) (fun j u hu => by
        rw [List.getElem?_map] at hu
        cases hy : ys[j]? with
        | none => rw [hy] at hu; cases hu
        | some y => rw [hy] at hu; cases hu; exact s4 ad rfl j y hy) (fun u hu => by obtain ⟨x, _, rfl⟩ := List.mem_map.1 hu; rfl) (by unfold maxLen; omega) (by omega) hB
    refine ⟨v', w', r1, ?_, r3, r5⟩
    have e : bvs xs ++ bvs ys = bvs (xs ++ ys) := by simp
    rw [e] at r2
    unfold Row
    rw [List.length_append, ← s1]; exact r2
/-- a byte that was built -/
theorem src_byte (w : World) (b : UInt8) : Src (w.alloc (.cells #[.int .u8 b.toNat] 5)) (some ⟨w.heap.size, 0, none⟩) 1 1 [b] := by
  refine ⟨rfl, Nat.le_refl _, fun e => (by cases e), fun ad e j x hx => ?_⟩
  cases e
  rw [Addr.add_mid, Nat.zero_add]
  exact (Has.newA w #[.int .u8 b.toNat] 5).cellv j _ (by
    match j, hx with
    | 0, hx => cases hx; rfl
    | j + 1, hx => simp at hx)
/-- 'string(b)' of a row -/
theorem cvt_src {w : World} {A : Option Addr} {m c : Nat} {ys : List UInt8} (h : Src w A m c ys) : (convert 120 9 (.slice A m c)).run Tryz.prog w = .ok (.string (mk ys)) w := by
  obtain ⟨s1, s2, s3, s4⟩ := h
  cases A with
  | none =>
    have hc := s3 rfl
    have hm : m = 0 := by omega
    subst hm hc
    obtain rfl : ys = [] := List.eq_nil_of_length_eq_zero s1.symm
    rw [run_convert_bytes_string w 120 9 5 none 0 0 underBy under5 under9]
    rfl
  | some ad =>
    have := run_convert_bytes_back (P := Tryz.prog) w 120 9 5 ad c ys underBy under5 under9 (fun j hj => s4 ad rfl j _ (List.getElem?_eq_getElem hj))
    rw [← s1] at this
    exact this
end Go.Proofs.YtplcicbpkbamnabGreatDoor.Lo.Na

