/- the reference: size against the runes; number. -/
import Derived.Test.YthhpbonacefmaaaDoorC1
namespace Go.Proofs.YthhpbonacefmaaaDoor
open Go Go.RowKit

theorem gs_drop (l : List UInt8) (i k : Nat) (lo hi : Int) : gs (l.drop i) k lo hi = gs l (i + k) lo hi := by
  unfold gs; rw [List.getElem?_drop]
theorem szr_drop (l : List UInt8) (i : Nat) (b : Int) : szr l i b = szr (l.drop i) 0 b := by
  unfold szr
  simp only [gs_drop, Nat.zero_add]
theorem gs_some {l : List UInt8} {k : Nat} {c : UInt8} (h : l[k]? = some c) (lo hi : Int) : gs l k lo hi = (decide (lo ≤ (c.toNat : Int)) && decide ((c.toNat : Int) ≤ hi)) := by
  unfold gs; rw [h]
theorem gs_true {l : List UInt8} {k : Nat} {lo hi : Int} (h : gs l k lo hi = true) : ∃ c, l[k]? = some c ∧ lo ≤ (c.toNat : Int) ∧ (c.toNat : Int) ≤ hi := by
  unfold gs at h
  cases hc : l[k]? with
  | none => rw [hc] at h; cases h
  | some c => rw [hc] at h; simp at h; exact ⟨c, rfl, h.1, h.2⟩
/-- the number that bytes say -/
def nst (n : Int) (b : UInt8) : Int := 64 * n + b.toNat - 128
def n0 (x : List UInt8) : Int := ((x.getD 0 0).toNat : Int) - (if x.length = 2 then 192 else if x.length = 3 then 224 else if x.length = 4 then 240 else 0)
def nmb (x : List UInt8) : Int := (x.drop 1).foldl nst (n0 x)

theorem szr_spec (b : UInt8) (t : List UInt8) : (dec (b :: t) = (65533, 1) ∧ 128 ≤ b.toNat ∧ szr (b :: t) 0 b.toNat = 0) ∨
    (szr (b :: t) 0 b.toNat = ((dec (b :: t)).2 : Int) ∧ nmb ((b :: t).take (dec (b :: t)).2) = ((dec (b :: t)).1 : Int)) := by
  have hb2 := b.toNat_lt
  cases form b t with
  | one h t =>
    right
    rw [dec_ascii h]
    refine ⟨by unfold szr; rw [if_pos (by omega)]; rfl, ?_⟩
    simp [nmb, n0]
  | @two c h hc hv t =>
    right
    have hc2 := c.toNat_lt
    rw [dec_two h hc hv]
    refine ⟨?_, ?_⟩
    · unfold szr
      rw [if_neg (by omega), if_pos (by omega), gs_some (c := c) rfl, decide_eq_true (by omega), decide_eq_true (by omega)]
      rfl
    · simp [nmb, n0, nst]; omega
  | @three c d h hc hd hv t =>
    right
    have hc2 := c.toNat_lt
    have hd2 := d.toNat_lt
    rw [dec_three h hc hd hv]
    refine ⟨?_, ?_⟩
    · unfold szr
      rw [if_neg (by omega), if_neg (by omega), if_pos (by omega), gs_some (c := c) rfl, gs_some (c := d) rfl, decide_eq_true (by split <;> omega), decide_eq_true (by split <;> omega), decide_eq_true (by omega), decide_eq_true (by omega)]
      rfl
    · simp [nmb, n0, nst]; omega
  | @four c d e h hc hd he hv t =>
    right
    have hc2 := c.toNat_lt
    have hd2 := d.toNat_lt
    have he2 := e.toNat_lt
    rw [dec_four h hc hd he hv]
    refine ⟨?_, ?_⟩
    · unfold szr
      rw [if_neg (by omega), if_neg (by omega), if_neg (by omega), if_pos (by omega), gs_some (c := c) rfl, gs_some (c := d) rfl, gs_some (c := e) rfl, decide_eq_true (by split <;> omega), decide_eq_true (by split <;> omega), decide_eq_true (by omega), decide_eq_true (by omega), decide_eq_true (by omega), decide_eq_true (by omega)]
      rfl
    · simp [nmb, n0, nst]; omega
  | odd h hb =>
    left
    refine ⟨h, hb, ?_⟩
    unfold szr
    rw [if_neg (by omega)]
    split
    · rename_i hr
      by_cases g : gs (b :: t) (0 + 1) 128 191 = true
      · exfalso
        obtain ⟨c, hc, c1, c2⟩ := gs_true g
        match t, hc with
        | c' :: t', hc =>
          cases hc
          rw [dec_two (by omega) (by omega) (by omega)] at h
          have := congrArg Prod.snd h
          simp at this
      · rw [if_neg g]
    · split
      · rename_i hr
        by_cases g : (gs (b :: t) (0 + 1) (if (b.toNat : Int) = 224 then 160 else 128) (if (b.toNat : Int) = 237 then 159 else 191) && gs (b :: t) (0 + 2) 128 191) = true
        · exfalso
          rw [Bool.and_eq_true] at g
          obtain ⟨c, hc, c1, c2⟩ := gs_true g.1
          obtain ⟨d, hd, d1, d2⟩ := gs_true g.2
          match t, hc, hd with
          | c' :: d' :: t', hc, hd =>
            cases hc
            cases hd
            rw [dec_three (by omega) (by split at c1 <;> split at c2 <;> omega) (by omega) (by split at c1 <;> split at c2 <;> omega)] at h
            have := congrArg Prod.snd h
            simp at this
        · rw [if_neg g]
      · split
        · rename_i hr
          by_cases g : (gs (b :: t) (0 + 1) (if (b.toNat : Int) = 240 then 144 else 128) (if (b.toNat : Int) = 244 then 143 else 191) && (gs (b :: t) (0 + 2) 128 191 && gs (b :: t) (0 + 3) 128 191)) = true
          · exfalso
            rw [Bool.and_eq_true, Bool.and_eq_true] at g
            obtain ⟨c, hc, c1, c2⟩ := gs_true g.1
            obtain ⟨d, hd, d1, d2⟩ := gs_true g.2.1
            obtain ⟨e, he, e1, e2⟩ := gs_true g.2.2
            match t, hc, hd, he with
            | c' :: d' :: e' :: t', hc, hd, he =>
              cases hc
              cases hd
              cases he
              rw [dec_four (by omega) (by split at c1 <;> split at c2 <;> omega) (by omega) (by omega) (by split at c1 <;> split at c2 <;> omega)] at h
              have := congrArg Prod.snd h
              simp at this
          · rw [if_neg g]
        · rfl

set_option maxRecDepth 100000 in
set_option maxHeartbeats 8000000 in
theorem number_c (x : ByteArray) (w : World) (h1 : 1 ≤ x.size) (h4 : x.size ≤ 4) :
    Calls Tryd.prog 51 #[.string x] w fun e w' => e = .returned (iv (nmb (sl x))) ∧ w' = w := by
  have hall : ∀ k, k < x.size → ∃ b : UInt8, (sl x)[k]? = some b := fun k hk => ⟨_, List.getElem?_eq_getElem hk⟩
  obtain ⟨b, hb⟩ := hall 0 (by omega)
  have hix : ∀ W, (Instr.index 9 (.string x) (.int .i64 0)).run Tryd.prog W = .ok (.int .u8 b.toNat) W := idx9' x 0 b (by omega) hb
  have HA := Keep.mk hall
  clear hall
  obtain ⟨z, hz⟩ : ∃ z : Int, (b.toNat : Int) = z := ⟨_, rfl⟩
  have hz0 : 0 ≤ z := by omega
  have hz1 : z < 256 := by have := b.toNat_lt; omega
  rw [hz] at hix
  have hn0 : n0 (sl x) = z - (if x.size = 2 then 192 else if x.size = 3 then 224 else if x.size = 4 then 240 else 0) := by
    unfold n0
    rw [sl_len, ← hz]
    simp [List.getD, hb]
  clear hz hb
  obtain ⟨N0, hN0⟩ : ∃ q, n0 (sl x) = q := ⟨_, rfl⟩
  rw [hN0] at hn0
  have HN0 := Keep.mk hN0
  have HN1 := Keep.mk hn0
  have hnb : -240 ≤ N0 ∧ N0 ≤ 255 := by rw [hn0]; repeat' split
                                        all_goals omega
  clear hN0 hn0
  obtain ⟨R, hR⟩ : ∃ R, nmb (sl x) = R := ⟨_, rfl⟩
  rw [hR]
  have HR := Keep.mk hR
  clear hR
  go_enter Tryd.func51, Tryd.ntmps51
  by_cases hsz : x.size = 1
  · skip
    have e : N0 = z := by rw [HN1.out]; simp [hsz]
    have HE := Keep.mk e
    clear e
    go_wp2_with fail
    go_loopw [3, 4] (fun v i w' => ∃ (k : Nat) (n : Int), i = .int .i64 k ∧ v = .int .i64 n ∧ 1 ≤ k ∧ k ≤ 1 ∧ w' = w ∧ Keep ((((sl x).drop 1).take (k - 1)).foldl nst N0 = n) ∧ (k = 1 → -300 ≤ n ∧ n ≤ 300) ∧ (k = 2 → -20000 ≤ n ∧ n ≤ 20000) ∧ (k = 3 → -2000000 ≤ n ∧ n ≤ 2000000) ∧ (k = 4 → -200000000 ≤ n ∧ n ≤ 200000000)) (fun _ i _ => 1 - (intOf i).toNat)
    case atStart => exact ⟨1, z, rfl, rfl, by omega, by omega, rfl, ⟨by rw [HE.out]; rfl⟩, by omega, by omega, by omega, by omega⟩
    case round =>
      obtain ⟨k, n, rfl, rfl, hk1, hk2, rfl, HF, q1, q2, q3, q4⟩ := hrel
      by_cases hk : k = 1
      · subst hk
        have e : R = n := by
          rw [← HR.out, ← HF.out, nmb, HN0.out]
          congr 1
          rw [List.take_of_length_le (by rw [List.length_drop, sl_len]; omega)]
        subst e
        go_wp2_with fail
        go_ret
        exact ⟨rfl, rfl⟩
      · exfalso; omega
  have hne1 : x.size ≠ 1 := hsz
  clear hsz
  by_cases hsz : x.size = 2
  · skip
    have e : N0 = z - 192 := by rw [HN1.out]; simp [hsz]
    have HE := Keep.mk e
    clear e
    go_wp2_with fail
    go_loopw [3, 4] (fun v i w' => ∃ (k : Nat) (n : Int), i = .int .i64 k ∧ v = .int .i64 n ∧ 1 ≤ k ∧ k ≤ 2 ∧ w' = w ∧ Keep ((((sl x).drop 1).take (k - 1)).foldl nst N0 = n) ∧ (k = 1 → -300 ≤ n ∧ n ≤ 300) ∧ (k = 2 → -20000 ≤ n ∧ n ≤ 20000) ∧ (k = 3 → -2000000 ≤ n ∧ n ≤ 2000000) ∧ (k = 4 → -200000000 ≤ n ∧ n ≤ 200000000)) (fun _ i _ => 2 - (intOf i).toNat)
    case atStart => exact ⟨1, z - 192, rfl, rfl, by omega, by omega, rfl, ⟨by rw [HE.out]; rfl⟩, by omega, by omega, by omega, by omega⟩
    case round =>
      obtain ⟨k, n, rfl, rfl, hk1, hk2, rfl, HF, q1, q2, q3, q4⟩ := hrel
      by_cases hk : k = 2
      · subst hk
        have e : R = n := by
          rw [← HR.out, ← HF.out, nmb, HN0.out]
          congr 1
          rw [List.take_of_length_le (by rw [List.length_drop, sl_len]; omega)]
        subst e
        go_wp2_with fail
        go_ret
        exact ⟨rfl, rfl⟩
      · obtain ⟨c, hc⟩ := HA.out k (by omega)
        have hix2 := idx9' x k c (by omega) hc
        obtain ⟨y, hy⟩ : ∃ y : Int, (c.toNat : Int) = y := ⟨_, rfl⟩
        have hy0 : 0 ≤ y := by omega
        have hy1 : y < 256 := by have := c.toNat_lt; omega
        rw [hy] at hix2
        have HF2 : Keep ((((sl x).drop 1).take (k + 1 - 1)).foldl nst N0 = 64 * n + y - 128) := ⟨by
          rw [show k + 1 - 1 = (k - 1) + 1 by omega, List.take_add_one, List.getElem?_drop, show 1 + (k - 1) = k by omega, hc, List.foldl_append, HF.out]
          simp [nst, hy]⟩
        have hnb2 : -2000000 ≤ n ∧ n ≤ 2000000 := by omega
        have HQ : Keep ((k + 1 = 1 → -300 ≤ 64 * n + y - 128 ∧ 64 * n + y - 128 ≤ 300) ∧ (k + 1 = 2 → -20000 ≤ 64 * n + y - 128 ∧ 64 * n + y - 128 ≤ 20000) ∧ (k + 1 = 3 → -2000000 ≤ 64 * n + y - 128 ∧ 64 * n + y - 128 ≤ 2000000) ∧ (k + 1 = 4 → -200000000 ≤ 64 * n + y - 128 ∧ 64 * n + y - 128 ≤ 200000000)) := ⟨by omega⟩
        clear hy hc q1 q2 q3 q4 HF
        go_wp2_with fail
        go_roundw
        case rel => exact ⟨k + 1, _, by simp, rfl, by omega, by omega, (by first | rfl | trivial), HF2, HQ.out.1, HQ.out.2.1, HQ.out.2.2.1, HQ.out.2.2.2⟩
        case measure => simp [intOf]; omega
  have hne2 : x.size ≠ 2 := hsz
  clear hsz
  by_cases hsz : x.size = 3
  · skip
    have e : N0 = z - 224 := by rw [HN1.out]; simp [hsz]
    have HE := Keep.mk e
    clear e
    go_wp2_with fail
    go_loopw [3, 4] (fun v i w' => ∃ (k : Nat) (n : Int), i = .int .i64 k ∧ v = .int .i64 n ∧ 1 ≤ k ∧ k ≤ 3 ∧ w' = w ∧ Keep ((((sl x).drop 1).take (k - 1)).foldl nst N0 = n) ∧ (k = 1 → -300 ≤ n ∧ n ≤ 300) ∧ (k = 2 → -20000 ≤ n ∧ n ≤ 20000) ∧ (k = 3 → -2000000 ≤ n ∧ n ≤ 2000000) ∧ (k = 4 → -200000000 ≤ n ∧ n ≤ 200000000)) (fun _ i _ => 3 - (intOf i).toNat)
    case atStart => exact ⟨1, z - 224, rfl, rfl, by omega, by omega, rfl, ⟨by rw [HE.out]; rfl⟩, by omega, by omega, by omega, by omega⟩
    case round =>
      obtain ⟨k, n, rfl, rfl, hk1, hk2, rfl, HF, q1, q2, q3, q4⟩ := hrel
      by_cases hk : k = 3
      · subst hk
        have e : R = n := by
          rw [← HR.out, ← HF.out, nmb, HN0.out]
          congr 1
          rw [List.take_of_length_le (by rw [List.length_drop, sl_len]; omega)]
        subst e
        go_wp2_with fail
        go_ret
        exact ⟨rfl, rfl⟩
      · obtain ⟨c, hc⟩ := HA.out k (by omega)
        have hix2 := idx9' x k c (by omega) hc
        obtain ⟨y, hy⟩ : ∃ y : Int, (c.toNat : Int) = y := ⟨_, rfl⟩
        have hy0 : 0 ≤ y := by omega
        have hy1 : y < 256 := by have := c.toNat_lt; omega
        rw [hy] at hix2
        have HF2 : Keep ((((sl x).drop 1).take (k + 1 - 1)).foldl nst N0 = 64 * n + y - 128) := ⟨by
          rw [show k + 1 - 1 = (k - 1) + 1 by omega, List.take_add_one, List.getElem?_drop, show 1 + (k - 1) = k by omega, hc, List.foldl_append, HF.out]
          simp [nst, hy]⟩
        have hnb2 : -2000000 ≤ n ∧ n ≤ 2000000 := by omega
        have HQ : Keep ((k + 1 = 1 → -300 ≤ 64 * n + y - 128 ∧ 64 * n + y - 128 ≤ 300) ∧ (k + 1 = 2 → -20000 ≤ 64 * n + y - 128 ∧ 64 * n + y - 128 ≤ 20000) ∧ (k + 1 = 3 → -2000000 ≤ 64 * n + y - 128 ∧ 64 * n + y - 128 ≤ 2000000) ∧ (k + 1 = 4 → -200000000 ≤ 64 * n + y - 128 ∧ 64 * n + y - 128 ≤ 200000000)) := ⟨by omega⟩
        clear hy hc q1 q2 q3 q4 HF
        go_wp2_with fail
        go_roundw
        case rel => exact ⟨k + 1, _, by simp, rfl, by omega, by omega, (by first | rfl | trivial), HF2, HQ.out.1, HQ.out.2.1, HQ.out.2.2.1, HQ.out.2.2.2⟩
        case measure => simp [intOf]; omega
  have hne3 : x.size ≠ 3 := hsz
  clear hsz
  have hsz : x.size = 4 := by omega
  clear hne1 hne2 hne3
  have e : N0 = z - 240 := by rw [HN1.out]; simp [hsz]
  have HE := Keep.mk e
  clear e
  go_wp2_with fail
  go_loopw [3, 4] (fun v i w' => ∃ (k : Nat) (n : Int), i = .int .i64 k ∧ v = .int .i64 n ∧ 1 ≤ k ∧ k ≤ 4 ∧ w' = w ∧ Keep ((((sl x).drop 1).take (k - 1)).foldl nst N0 = n) ∧ (k = 1 → -300 ≤ n ∧ n ≤ 300) ∧ (k = 2 → -20000 ≤ n ∧ n ≤ 20000) ∧ (k = 3 → -2000000 ≤ n ∧ n ≤ 2000000) ∧ (k = 4 → -200000000 ≤ n ∧ n ≤ 200000000)) (fun _ i _ => 4 - (intOf i).toNat)
  case atStart => exact ⟨1, z - 240, rfl, rfl, by omega, by omega, rfl, ⟨by rw [HE.out]; rfl⟩, by omega, by omega, by omega, by omega⟩
  case round =>
    obtain ⟨k, n, rfl, rfl, hk1, hk2, rfl, HF, q1, q2, q3, q4⟩ := hrel
    by_cases hk : k = 4
    · subst hk
      have e : R = n := by
        rw [← HR.out, ← HF.out, nmb, HN0.out]
        congr 1
        rw [List.take_of_length_le (by rw [List.length_drop, sl_len]; omega)]
      subst e
      go_wp2_with fail
      go_ret
      exact ⟨rfl, rfl⟩
    · obtain ⟨c, hc⟩ := HA.out k (by omega)
      have hix2 := idx9' x k c (by omega) hc
      obtain ⟨y, hy⟩ : ∃ y : Int, (c.toNat : Int) = y := ⟨_, rfl⟩
      have hy0 : 0 ≤ y := by omega
      have hy1 : y < 256 := by have := c.toNat_lt; omega
      rw [hy] at hix2
      have HF2 : Keep ((((sl x).drop 1).take (k + 1 - 1)).foldl nst N0 = 64 * n + y - 128) := ⟨by
        rw [show k + 1 - 1 = (k - 1) + 1 by omega, List.take_add_one, List.getElem?_drop, show 1 + (k - 1) = k by omega, hc, List.foldl_append, HF.out]
        simp [nst, hy]⟩
      have hnb2 : -2000000 ≤ n ∧ n ≤ 2000000 := by omega
      have HQ : Keep ((k + 1 = 1 → -300 ≤ 64 * n + y - 128 ∧ 64 * n + y - 128 ≤ 300) ∧ (k + 1 = 2 → -20000 ≤ 64 * n + y - 128 ∧ 64 * n + y - 128 ≤ 20000) ∧ (k + 1 = 3 → -2000000 ≤ 64 * n + y - 128 ∧ 64 * n + y - 128 ≤ 2000000) ∧ (k + 1 = 4 → -200000000 ≤ 64 * n + y - 128 ∧ 64 * n + y - 128 ≤ 200000000)) := ⟨by omega⟩
      clear hy hc q1 q2 q3 q4 HF
      go_wp2_with fail
      go_roundw
      case rel => exact ⟨k + 1, _, by simp, rfl, by omega, by omega, (by first | rfl | trivial), HF2, HQ.out.1, HQ.out.2.1, HQ.out.2.2.1, HQ.out.2.2.2⟩
      case measure => simp [intOf]; omega
end Go.Proofs.YthhpbonacefmaaaDoor
