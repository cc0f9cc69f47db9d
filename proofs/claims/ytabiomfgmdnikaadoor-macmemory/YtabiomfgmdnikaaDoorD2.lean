/- MacSaid's walk -/
import Derived.Test.YtabiomfgmdnikaaDoorD1
import Derived.Test.YtabiomfgmdnikaaDoorR4
namespace Go.Proofs.YtabiomfgmdnikaaDoor
open Go Go.RowKit

def useB : ByteArray := { data := #[117, 115, 101] }

theorem same_step (p1 p2 : List ByteArray) (n1 n2 i : Nat) (q1 q2 : ByteArray) (h1 : p1[i]? = some q1) (h2 : p2[i]? = some q2) (h : true = decide (n1 = n2 ∧ p1.take i = p2.take i)) : (q1.toList == q2.toList) = decide (n1 = n2 ∧ p1.take (i + 1) = p2.take (i + 1)) := by
  have h' := of_decide_eq_true h.symm
  obtain ⟨l1, e1⟩ := List.getElem?_eq_some_iff.1 h1
  obtain ⟨l2, e2⟩ := List.getElem?_eq_some_iff.1 h2
  rw [beqL, Bool.eq_iff_iff, decide_eq_true_iff, decide_eq_true_iff, List.take_succ_eq_append_getElem l1, List.take_succ_eq_append_getElem l2, e1, e2, h'.2]
  constructor
  · intro e; exact ⟨h'.1, by rw [sl_inj e]⟩
  · rintro ⟨_, e⟩
    have := List.append_cancel_left e
    rw [(List.cons.inj this).1]
theorem same_end (p1 p2 : List ByteArray) (n1 n2 i : Nat) (s : Bool) (l1 : p1.length = n1) (l2 : p2.length = n2) (h : s = decide (n1 = n2 ∧ p1.take i = p2.take i)) (he : ¬ i < n1 ∨ s = false) : s = decide (p1 = p2) := by
  rw [h, Bool.eq_iff_iff, decide_eq_true_iff, decide_eq_true_iff]
  constructor
  · intro hh
    rcases he with he | he
    · have h2 := hh.2
      rw [List.take_of_length_le (by omega), List.take_of_length_le (by omega)] at h2
      exact h2
    · rw [h] at he
      exact absurd hh (of_decide_eq_false he)
  · rintro rfl
    exact ⟨by omega, rfl⟩
theorem map_sl_inj {p1 p2 : List ByteArray} (h : p1.map sl = p2.map sl) : p1 = p2 := by
  induction p1 generalizing p2 with
  | nil => cases p2 with
    | nil => rfl
    | cons x r => simp at h
  | cons y r ih => cases p2 with
    | nil => simp at h
    | cons x r2 =>
      simp only [List.map_cons, List.cons.injEq] at h
      rw [sl_inj h.1, ih h.2]
theorem said_len (use : ByteArray) (ps : List ByteArray) (q : List UInt8) (hq : q ∈ ps.map sl) : q.length ≤ (saidB use ps).size := by
  rw [saidB_size]
  have : q.length ≤ (Mac.flat (ps.map sl)).length := by
    generalize ps.map sl = L at hq
    induction L with
    | nil => cases hq
    | cons x r ih =>
      simp only [Mac.flat, List.flatMap_cons, List.length_append, Mac.len8_len] at *
      cases List.mem_cons.1 hq with
      | inl e => subst e; omega
      | inr e => have := ih e; omega
  simp only [Mac.said, List.length_append, List.length_cons]; omega
theorem said_beq (p1 p2 : List ByteArray) (h1 : (saidB useB p1).size ≤ 1073741824) (h2 : (saidB useB p2).size ≤ 1073741824) : ((saidB useB p1).toList == (saidB useB p2).toList) = decide (p1 = p2) := by
  rw [beqL, Bool.eq_iff_iff, decide_eq_true_iff, decide_eq_true_iff, saidB_sl, saidB_sl, Mac.said_inj]
  · exact ⟨map_sl_inj, fun e => by rw [e]⟩
  · intro q hq; have := said_len useB p1 q hq; omega
  · intro q hq; have := said_len useB p2 q hq; omega

def catB (ps : List ByteArray) : ByteArray := ⟨(ps.map sl).flatten.toArray⟩
theorem catB_sl (ps : List ByteArray) : sl (catB ps) = (ps.map sl).flatten := sl_mk _
theorem catB_step (ps : List ByteArray) (i : Nat) (p : ByteArray) (hp : ps[i]? = some p) : catB (ps.take (i + 1)) = catB (ps.take i) ++ p := by
  obtain ⟨h1, e1⟩ := List.getElem?_eq_some_iff.1 hp
  apply sl_inj
  rw [sl_app, catB_sl, catB_sl, List.take_succ_eq_append_getElem h1, e1, List.map_append, List.flatten_append]
  simp
theorem catB_zero (ps : List ByteArray) : catB (ps.take 0) = { data := #[] } := rfl
theorem cat_le (L : List (List UInt8)) : L.flatten.length ≤ (Mac.flat L).length := by
  induction L with
  | nil => simp
  | cons x r ih =>
    simp only [List.flatten_cons, Mac.flat, List.flatMap_cons, List.length_append, Mac.len8_len] at *
    omega
theorem catB_le (use : ByteArray) (ps : List ByteArray) : (catB ps).size ≤ (saidB use ps).size := by
  rw [saidB_size, ← sl_len, catB_sl]
  have := cat_le (ps.map sl)
  simp only [Mac.said, List.length_append, List.length_cons]; omega
theorem flat_take (L : List (List UInt8)) (i : Nat) : (L.take i).flatten.length ≤ L.flatten.length := by
  have e : L.flatten = (L.take i).flatten ++ (L.drop i).flatten := by rw [← List.flatten_append, List.take_append_drop]
  rw [e, List.length_append]; omega
theorem catB_take (ps : List ByteArray) (i : Nat) : (catB (ps.take i)).size ≤ (catB ps).size := by
  rw [← sl_len, ← sl_len, catB_sl, catB_sl, List.map_take]; exact flat_take _ i
theorem strs_one (w : World) (s : ByteArray) : Strs (w.alloc (.cells #[.string s] 9)) (some ⟨w.heap.size, 0, none⟩) 1 [s] :=
  ⟨rfl, fun _ => ⟨_, 0, rfl, fun j p hp => by
    rw [Nat.zero_add]
    refine (Has.newA w #[.string s] 9).cellv j _ ?_
    match j, hp with
    | 0, hp => obtain rfl : s = p := by simpa using hp
               rfl
    | j + 1, hp => simp at hp⟩⟩
theorem said_one (use s : ByteArray) : (saidB use [s]).size = use.size + 9 + s.size := by
  rw [saidB_size]
  simp only [Mac.said, Mac.flat, List.map_cons, List.map_nil, List.flatMap_cons, List.flatMap_nil, List.length_append, List.length_cons, List.length_nil, Mac.len8_len, sl_len]
  omega

set_option maxRecDepth 100000 in
set_option maxHeartbeats 8000000 in
theorem msaid_any (sec : ByteArray) (a1 : Option Addr) (n1 c1 : Nat) (p1 : List ByteArray) (a2 : Option Addr) (n2 c2 : Nat) (p2 : List ByteArray) (w : World) (hkc : Kc w) (hp1 : Strs w a1 n1 p1) (hp2 : Strs w a2 n2 p2) (h0 : sec.size ≤ 1073741824) (hs1 : (saidB useB p1).size ≤ 1073741824) (hs2 : (saidB useB p2).size ≤ 1073741824) :
    Calls Tryd.prog 5 #[.string sec, .slice a1 n1 c1, .slice a2 n2 c2] w fun e w' => e = .returned (.bool true) ∧ w.grownBy w' none := by
  have HC : Keep (Kc w) := ⟨hkc⟩
  have HP1 : Keep (Strs w a1 n1 p1) := ⟨hp1⟩
  have HP2 : Keep (Strs w a2 n2 p2) := ⟨hp2⟩
  clear hp1 hp2 hkc
  go_enter Tryd.func5, Tryd.ntmps5
  go_wp2_with fail
  refine (malive_any _ HC.out).mono ?_
  rintro e w1 ⟨rfl, g1⟩
  have H1 : Keep (w.grownBy w1 none) := ⟨g1⟩
  clear g1
  go_wp2_with fail
  refine (lsaid_any useB a1 n1 c1 p1 _ (HP1.out.kept H1.out) (by omega)).mono ?_
  rintro e w2 ⟨rfl, g2⟩
  have H2 : Keep (w.grownBy w2 none) := ⟨H1.out.trans g2⟩
  clear g2
  go_wp2_with fail
  refine (lsaid_any useB a2 n2 c2 p2 _ (HP2.out.kept H2.out) (by omega)).mono ?_
  rintro e w3 ⟨rfl, g3⟩
  have H3 : Keep (w.grownBy w3 none) := ⟨H2.out.trans g3⟩
  clear g3
  have hl1 := HP1.out.len
  have hl2 := HP2.out.len
  have hn1 : n1 ≤ 1073741824 := by
    have h1 := flat_many (p1.map sl)
    rw [saidB_size] at hs1
    simp only [Mac.said, List.length_append, List.length_cons] at hs1
    rw [List.length_map, hl1] at h1; omega
  have hn2 : n2 ≤ 1073741824 := by
    have h1 := flat_many (p2.map sl)
    rw [saidB_size] at hs2
    simp only [Mac.said, List.length_append, List.length_cons] at hs2
    rw [List.length_map, hl2] at h1; omega
  go_wp2_with fail
  go_loopw [10, 11] (fun v t w' => ∃ (i : Nat) (s : Bool), i ≤ n1 ∧ t = .int .i64 i ∧ v = .bool s ∧ Keep (s = decide (n1 = n2 ∧ p1.take i = p2.take i) ∧ w.grownBy w' none)) (fun _ t _ => n1 - (intOf t).toNat)
  case atStart => exact ⟨0, _, by omega, rfl, rfl, ⟨by
    rw [Bool.eq_iff_iff, beq_iff_eq, decide_eq_true_iff]
    simp only [List.take_zero, and_true]
    omega, H3.out⟩⟩
  case round =>
    obtain ⟨i, s, hi, rfl, rfl, hrel⟩ := hrel
    by_cases hli : i < n1 ∧ s = true
    · obtain ⟨hli, rfl⟩ := hli
      have h12 := (of_decide_eq_true hrel.out.1.symm).1
      obtain ⟨B, o, rfl, hat⟩ := HP1.out.at_ (by omega)
      obtain ⟨B2, o2, rfl, hat2⟩ := HP2.out.at_ (by omega)
      obtain ⟨q1, hq1⟩ : ∃ p, p1[i]? = some p := ⟨_, List.getElem?_eq_getElem (by omega)⟩
      obtain ⟨q2, hq2⟩ : ∃ p, p2[i]? = some p := ⟨_, List.getElem?_eq_getElem (by omega)⟩
      have hc1 : wr.cell? ⟨B, o + i, none⟩ = some (.string q1) := hrel.out.2.cell (hat i q1 hq1) (by simp)
      have hc2 : wr.cell? ⟨B2, o2 + i, none⟩ = some (.string q2) := hrel.out.2.cell (hat2 i q2 hq2) (by simp)
      have HN : Keep ((q1.toList == q2.toList) = decide (n1 = n2 ∧ p1.take (i + 1) = p2.take (i + 1)) ∧ w.grownBy wr none) := ⟨same_step p1 p2 n1 n2 i q1 q2 hq1 hq2 hrel.out.1, hrel.out.2⟩
      have hli2 : i < n2 := by omega
      clear hrel hat hat2 hq1 hq2 h12
      go_wp2_with fail
      go_region
      go_wp2_with fail
      refine ⟨⟨i + 1, _, by omega, by go_num, rfl, ⟨HN.out.1, HN.out.2.trans (gr_drewN _ _ _)⟩⟩, ?_⟩
      simp [intOf]; omega
    · have HE : Keep (s = decide (p1 = p2) ∧ w.grownBy wr none) := ⟨same_end p1 p2 n1 n2 i s hl1 hl2 hrel.out.1 (by
        by_cases h : i < n1
        · exact .inr (by cases s with
            | false => rfl
            | true => exact absurd ⟨h, rfl⟩ hli)
        · exact .inl h), hrel.out.2⟩
      have hxx : (decide (i < n1) && s) = false := by
        by_cases h : i < n1
        · cases s with
          | false => simp
          | true => exact absurd ⟨h, rfl⟩ hli
        · simp [h]
      clear hrel
      by_cases hin : i < n1
      · obtain rfl : s = false := by simpa [hin] using hxx
        clear hxx hli
        go_wp2_with fail
        have hD1 : (Mac.said (sl useB) (p1.map sl)).length ≤ 2305843009213693952 := by rw [← saidB_size]; omega
        have hD2 : (Mac.said (sl useB) (p2.map sl)).length ≤ 2305843009213693952 := by rw [← saidB_size]; omega
        refine (derive_any sec useB a1 n1 c1 p1 _ (HC.out.kept HE.out.2 (by simp)) (HP1.out.kept HE.out.2) (by omega) hD1).mono ?_
        rintro e w4 ⟨rfl, g4⟩
        have H4 : Keep (w.grownBy w4 none) := ⟨HE.out.2.trans g4⟩
        clear g4
        go_wp2_with fail
        refine (derive_any sec useB a2 n2 c2 p2 _ (HC.out.kept H4.out (by simp)) (HP2.out.kept H4.out) (by omega) hD2).mono ?_
        rintro e w5 ⟨rfl, g5⟩
        have H5 : Keep (w.grownBy w5 none) := ⟨H4.out.trans g5⟩
        have hab := said_beq p1 p2 hs1 hs2
        rw [← HE.out.1] at hab
        have hx1 : ((deriveB sec useB p1).toList == (deriveB sec useB p1).toList) = true := by simp
        have hx2 : ((deriveB sec useB p2).toList == (deriveB sec useB p2).toList) = true := by simp
        clear g5
        go_wp2_with fail
        refine (tag_any sec (saidB useB p1) _ (HC.out.kept H5.out (by simp)) (by omega) (by omega)).mono ?_
        rintro e w6 ⟨rfl, g6⟩
        have H6 : Keep (w.grownBy w6 none) := ⟨H5.out.trans g6⟩
        rw [hmac_said]
        clear g6
        go_wp2_with fail
        refine (tag_any sec (saidB useB p2) _ (HC.out.kept H6.out (by simp)) (by omega) (by omega)).mono ?_
        rintro e w7 ⟨rfl, g7⟩
        have H7 : Keep (w.grownBy w7 none) := ⟨H6.out.trans g7⟩
        rw [hmac_said]
        clear g7
        go_wp2_with fail
        have hcs := catB_le useB p1
        go_loopw [14, 15] (fun v t w' => ∃ (k : Nat) (x : ByteArray), k ≤ n1 ∧ t = .int .i64 k ∧ v = .string x ∧ Keep (x = catB (p1.take k) ∧ w.grownBy w' none)) (fun _ t _ => n1 - (intOf t).toNat)
        case atStart => exact ⟨0, _, by omega, rfl, rfl, ⟨rfl, H7.out⟩⟩
        case round =>
          obtain ⟨k, x, hk, rfl, rfl, hrel⟩ := hrel
          by_cases hlk : k < n1
          · obtain ⟨B, o, rfl, hat⟩ := HP1.out.at_ (by omega)
            obtain ⟨q, hq⟩ : ∃ p, p1[k]? = some p := ⟨_, List.getElem?_eq_getElem (by omega)⟩
            have hc1 : wr.cell? ⟨B, o + k, none⟩ = some (.string q) := hrel.out.2.cell (hat k q hq) (by simp)
            have hst := catB_step p1 k q hq
            rw [← hrel.out.1] at hst
            have hle := catB_take p1 (k + 1)
            rw [hst, ByteArray.size_append] at hle
            have hax := addS x q (by omega)
            have HX : Keep (x ++ q = catB (p1.take (k + 1)) ∧ w.grownBy wr none) := ⟨hst.symm, hrel.out.2⟩
            clear hrel hat hq hst hle
            go_wp2_with fail
            refine ⟨⟨k + 1, _, by omega, by go_num, rfl, HX⟩, ?_⟩
            simp [intOf]; omega
          · have hxe : x = catB p1 := by rw [hrel.out.1, List.take_of_length_le (by omega)]
            have HF : Keep (w.grownBy wr none) := ⟨hrel.out.2⟩
            have hxs : x.size ≤ 1073741824 := by rw [hxe]; omega
            have hus : useB.size = 3 := rfl
            have hso := said_one useB x
            have hD3 : (Mac.said (sl useB) ([x].map sl)).length ≤ 2305843009213693952 := by rw [← saidB_size]; omega
            have hx4 : ((deriveB sec useB [x]).toList == (deriveB sec useB [x]).toList) = true := by simp
            clear hrel hxe
            go_wp2_with fail
            refine (derive_any sec useB _ 1 1 [x] _ (HC.out.kept (HF.out.trans (World.grownBy_alloc _ _ none)) (by simp)) (strs_one wr x) (by omega) hD3).mono ?_
            rintro e w8 ⟨rfl, g8⟩
            have H8 : Keep (w.grownBy w8 none) := ⟨(HF.out.trans (World.grownBy_alloc _ _ none)).trans g8⟩
            clear g8
            go_wp2_with fail
            refine (lsaid_any useB _ 1 1 [x] _ (strs_one w8 x) (by omega)).mono ?_
            rintro e w9 ⟨rfl, g9⟩
            have H9 : Keep (w.grownBy w9 none) := ⟨(H8.out.trans (World.grownBy_alloc _ _ none)).trans g9⟩
            clear g9
            go_wp2_with fail
            refine (tag_any sec (saidB useB [x]) _ (HC.out.kept H9.out (by simp)) (by omega) (by omega)).mono ?_
            rintro e w10 ⟨rfl, g10⟩
            have H10 : Keep (w.grownBy w10 none) := ⟨H9.out.trans g10⟩
            rw [hmac_said]
            clear g10
            go_wp2_with fail
            go_ret
            exact ⟨rfl, H10.out⟩
      · clear hxx hli
        cases s
        · go_wp2_with fail
          have hD1 : (Mac.said (sl useB) (p1.map sl)).length ≤ 2305843009213693952 := by rw [← saidB_size]; omega
          have hD2 : (Mac.said (sl useB) (p2.map sl)).length ≤ 2305843009213693952 := by rw [← saidB_size]; omega
          refine (derive_any sec useB a1 n1 c1 p1 _ (HC.out.kept HE.out.2 (by simp)) (HP1.out.kept HE.out.2) (by omega) hD1).mono ?_
          rintro e w4 ⟨rfl, g4⟩
          have H4 : Keep (w.grownBy w4 none) := ⟨HE.out.2.trans g4⟩
          clear g4
          go_wp2_with fail
          refine (derive_any sec useB a2 n2 c2 p2 _ (HC.out.kept H4.out (by simp)) (HP2.out.kept H4.out) (by omega) hD2).mono ?_
          rintro e w5 ⟨rfl, g5⟩
          have H5 : Keep (w.grownBy w5 none) := ⟨H4.out.trans g5⟩
          have hab := said_beq p1 p2 hs1 hs2
          rw [← HE.out.1] at hab
          have hx1 : ((deriveB sec useB p1).toList == (deriveB sec useB p1).toList) = true := by simp
          have hx2 : ((deriveB sec useB p2).toList == (deriveB sec useB p2).toList) = true := by simp
          clear g5
          go_wp2_with fail
          refine (tag_any sec (saidB useB p1) _ (HC.out.kept H5.out (by simp)) (by omega) (by omega)).mono ?_
          rintro e w6 ⟨rfl, g6⟩
          have H6 : Keep (w.grownBy w6 none) := ⟨H5.out.trans g6⟩
          rw [hmac_said]
          clear g6
          go_wp2_with fail
          refine (tag_any sec (saidB useB p2) _ (HC.out.kept H6.out (by simp)) (by omega) (by omega)).mono ?_
          rintro e w7 ⟨rfl, g7⟩
          have H7 : Keep (w.grownBy w7 none) := ⟨H6.out.trans g7⟩
          rw [hmac_said]
          clear g7
          go_wp2_with fail
          have hcs := catB_le useB p1
          go_loopw [14, 15] (fun v t w' => ∃ (k : Nat) (x : ByteArray), k ≤ n1 ∧ t = .int .i64 k ∧ v = .string x ∧ Keep (x = catB (p1.take k) ∧ w.grownBy w' none)) (fun _ t _ => n1 - (intOf t).toNat)
          case atStart => exact ⟨0, _, by omega, rfl, rfl, ⟨rfl, H7.out⟩⟩
          case round =>
            obtain ⟨k, x, hk, rfl, rfl, hrel⟩ := hrel
            by_cases hlk : k < n1
            · obtain ⟨B, o, rfl, hat⟩ := HP1.out.at_ (by omega)
              obtain ⟨q, hq⟩ : ∃ p, p1[k]? = some p := ⟨_, List.getElem?_eq_getElem (by omega)⟩
              have hc1 : wr.cell? ⟨B, o + k, none⟩ = some (.string q) := hrel.out.2.cell (hat k q hq) (by simp)
              have hst := catB_step p1 k q hq
              rw [← hrel.out.1] at hst
              have hle := catB_take p1 (k + 1)
              rw [hst, ByteArray.size_append] at hle
              have hax := addS x q (by omega)
              have HX : Keep (x ++ q = catB (p1.take (k + 1)) ∧ w.grownBy wr none) := ⟨hst.symm, hrel.out.2⟩
              clear hrel hat hq hst hle
              go_wp2_with fail
              refine ⟨⟨k + 1, _, by omega, by go_num, rfl, HX⟩, ?_⟩
              simp [intOf]; omega
            · have hxe : x = catB p1 := by rw [hrel.out.1, List.take_of_length_le (by omega)]
              have HF : Keep (w.grownBy wr none) := ⟨hrel.out.2⟩
              have hxs : x.size ≤ 1073741824 := by rw [hxe]; omega
              have hus : useB.size = 3 := rfl
              have hso := said_one useB x
              have hD3 : (Mac.said (sl useB) ([x].map sl)).length ≤ 2305843009213693952 := by rw [← saidB_size]; omega
              have hx4 : ((deriveB sec useB [x]).toList == (deriveB sec useB [x]).toList) = true := by simp
              clear hrel hxe
              go_wp2_with fail
              refine (derive_any sec useB _ 1 1 [x] _ (HC.out.kept (HF.out.trans (World.grownBy_alloc _ _ none)) (by simp)) (strs_one wr x) (by omega) hD3).mono ?_
              rintro e w8 ⟨rfl, g8⟩
              have H8 : Keep (w.grownBy w8 none) := ⟨(HF.out.trans (World.grownBy_alloc _ _ none)).trans g8⟩
              clear g8
              go_wp2_with fail
              refine (lsaid_any useB _ 1 1 [x] _ (strs_one w8 x) (by omega)).mono ?_
              rintro e w9 ⟨rfl, g9⟩
              have H9 : Keep (w.grownBy w9 none) := ⟨(H8.out.trans (World.grownBy_alloc _ _ none)).trans g9⟩
              clear g9
              go_wp2_with fail
              refine (tag_any sec (saidB useB [x]) _ (HC.out.kept H9.out (by simp)) (by omega) (by omega)).mono ?_
              rintro e w10 ⟨rfl, g10⟩
              have H10 : Keep (w.grownBy w10 none) := ⟨H9.out.trans g10⟩
              rw [hmac_said]
              clear g10
              go_wp2_with fail
              go_ret
              exact ⟨rfl, H10.out⟩
        · go_wp2_with fail
          have hD1 : (Mac.said (sl useB) (p1.map sl)).length ≤ 2305843009213693952 := by rw [← saidB_size]; omega
          have hD2 : (Mac.said (sl useB) (p2.map sl)).length ≤ 2305843009213693952 := by rw [← saidB_size]; omega
          refine (derive_any sec useB a1 n1 c1 p1 _ (HC.out.kept HE.out.2 (by simp)) (HP1.out.kept HE.out.2) (by omega) hD1).mono ?_
          rintro e w4 ⟨rfl, g4⟩
          have H4 : Keep (w.grownBy w4 none) := ⟨HE.out.2.trans g4⟩
          clear g4
          go_wp2_with fail
          refine (derive_any sec useB a2 n2 c2 p2 _ (HC.out.kept H4.out (by simp)) (HP2.out.kept H4.out) (by omega) hD2).mono ?_
          rintro e w5 ⟨rfl, g5⟩
          have H5 : Keep (w.grownBy w5 none) := ⟨H4.out.trans g5⟩
          have hab := said_beq p1 p2 hs1 hs2
          rw [← HE.out.1] at hab
          have hx1 : ((deriveB sec useB p1).toList == (deriveB sec useB p1).toList) = true := by simp
          have hx2 : ((deriveB sec useB p2).toList == (deriveB sec useB p2).toList) = true := by simp
          have hx3 : ((deriveB sec useB p1).toList == (deriveB sec useB p2).toList) = true := by
            rw [of_decide_eq_true HE.out.1.symm]; simp
          clear g5
          go_wp2_with fail
          refine (tag_any sec (saidB useB p1) _ (HC.out.kept H5.out (by simp)) (by omega) (by omega)).mono ?_
          rintro e w6 ⟨rfl, g6⟩
          have H6 : Keep (w.grownBy w6 none) := ⟨H5.out.trans g6⟩
          rw [hmac_said]
          clear g6
          go_wp2_with fail
          refine (tag_any sec (saidB useB p2) _ (HC.out.kept H6.out (by simp)) (by omega) (by omega)).mono ?_
          rintro e w7 ⟨rfl, g7⟩
          have H7 : Keep (w.grownBy w7 none) := ⟨H6.out.trans g7⟩
          rw [hmac_said]
          clear g7
          go_wp2_with fail
          have hcs := catB_le useB p1
          go_loopw [14, 15] (fun v t w' => ∃ (k : Nat) (x : ByteArray), k ≤ n1 ∧ t = .int .i64 k ∧ v = .string x ∧ Keep (x = catB (p1.take k) ∧ w.grownBy w' none)) (fun _ t _ => n1 - (intOf t).toNat)
          case atStart => exact ⟨0, _, by omega, rfl, rfl, ⟨rfl, H7.out⟩⟩
          case round =>
            obtain ⟨k, x, hk, rfl, rfl, hrel⟩ := hrel
            by_cases hlk : k < n1
            · obtain ⟨B, o, rfl, hat⟩ := HP1.out.at_ (by omega)
              obtain ⟨q, hq⟩ : ∃ p, p1[k]? = some p := ⟨_, List.getElem?_eq_getElem (by omega)⟩
              have hc1 : wr.cell? ⟨B, o + k, none⟩ = some (.string q) := hrel.out.2.cell (hat k q hq) (by simp)
              have hst := catB_step p1 k q hq
              rw [← hrel.out.1] at hst
              have hle := catB_take p1 (k + 1)
              rw [hst, ByteArray.size_append] at hle
              have hax := addS x q (by omega)
              have HX : Keep (x ++ q = catB (p1.take (k + 1)) ∧ w.grownBy wr none) := ⟨hst.symm, hrel.out.2⟩
              clear hrel hat hq hst hle
              go_wp2_with fail
              refine ⟨⟨k + 1, _, by omega, by go_num, rfl, HX⟩, ?_⟩
              simp [intOf]; omega
            · have hxe : x = catB p1 := by rw [hrel.out.1, List.take_of_length_le (by omega)]
              have HF : Keep (w.grownBy wr none) := ⟨hrel.out.2⟩
              have hxs : x.size ≤ 1073741824 := by rw [hxe]; omega
              have hus : useB.size = 3 := rfl
              have hso := said_one useB x
              have hD3 : (Mac.said (sl useB) ([x].map sl)).length ≤ 2305843009213693952 := by rw [← saidB_size]; omega
              have hx4 : ((deriveB sec useB [x]).toList == (deriveB sec useB [x]).toList) = true := by simp
              clear hrel hxe
              go_wp2_with fail
              refine (derive_any sec useB _ 1 1 [x] _ (HC.out.kept (HF.out.trans (World.grownBy_alloc _ _ none)) (by simp)) (strs_one wr x) (by omega) hD3).mono ?_
              rintro e w8 ⟨rfl, g8⟩
              have H8 : Keep (w.grownBy w8 none) := ⟨(HF.out.trans (World.grownBy_alloc _ _ none)).trans g8⟩
              clear g8
              go_wp2_with fail
              refine (lsaid_any useB _ 1 1 [x] _ (strs_one w8 x) (by omega)).mono ?_
              rintro e w9 ⟨rfl, g9⟩
              have H9 : Keep (w.grownBy w9 none) := ⟨(H8.out.trans (World.grownBy_alloc _ _ none)).trans g9⟩
              clear g9
              go_wp2_with fail
              refine (tag_any sec (saidB useB [x]) _ (HC.out.kept H9.out (by simp)) (by omega) (by omega)).mono ?_
              rintro e w10 ⟨rfl, g10⟩
              have H10 : Keep (w.grownBy w10 none) := ⟨H9.out.trans g10⟩
              rw [hmac_said]
              clear g10
              go_wp2_with fail
              go_ret
              exact ⟨rfl, H10.out⟩
end Go.Proofs.YtabiomfgmdnikaaDoor
