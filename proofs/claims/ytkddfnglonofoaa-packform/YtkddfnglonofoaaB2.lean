/- pack: the Reader's numbers. -/
import Derived.Test.YtkddfnglonofoaaB1
namespace Go.Proofs.Ytkddfnglonofoaa
open Go Go.RowKit

theorem sx_val (l : List UInt8) (size : Int) (hs : sized size) (hl : l.length = 0 ∨ (l.length : Int) = size) : sx (val l) size.toNat = u64 (sval l) := by
  have h8 : size = 1 ∨ size = 2 ∨ size = 3 ∨ size = 4 ∨ size = 5 ∨ size = 6 ∨ size = 7 ∨ size = 8 := by obtain ⟨h1, h2⟩ := hs; omega
  have hv := val_lt l
  rcases hl with hl | hl
  · have : l = [] := List.eq_nil_of_length_eq_zero hl
    subst this
    rcases h8 with rfl | rfl | rfl | rfl | rfl | rfl | rfl | rfl <;> decide
  · obtain ⟨n, hn⟩ : ∃ n, val l = n := ⟨_, rfl⟩
    obtain ⟨k, hk⟩ : ∃ k, l.length = k := ⟨_, rfl⟩
    have e : size.toNat = k := by omega
    unfold sx sval u64
    rw [hn, hk] at hv
    rw [hn, hk, e]
    have h9 : k = 1 ∨ k = 2 ∨ k = 3 ∨ k = 4 ∨ k = 5 ∨ k = 6 ∨ k = 7 ∨ k = 8 := by omega
    rw [Nat.mod_eq_of_lt hv]
    clear hk hn e hl h8 hs
    rcases h9 with rfl | rfl | rfl | rfl | rfl | rfl | rfl | rfl
    · have hv' : n < 256 := hv
      show (if 2 * n < 256 then n else n + 18446744073709551616 - 256) = ((if 2 * n < 256 then (n : Int) else (n : Int) - ((256 : Nat) : Int)) % 18446744073709551616).toNat
      split <;> omega
    · have hv' : n < 65536 := hv
      show (if 2 * n < 65536 then n else n + 18446744073709551616 - 65536) = ((if 2 * n < 65536 then (n : Int) else (n : Int) - ((65536 : Nat) : Int)) % 18446744073709551616).toNat
      split <;> omega
    · have hv' : n < 16777216 := hv
      show (if 2 * n < 16777216 then n else n + 18446744073709551616 - 16777216) = ((if 2 * n < 16777216 then (n : Int) else (n : Int) - ((16777216 : Nat) : Int)) % 18446744073709551616).toNat
      split <;> omega
    · have hv' : n < 4294967296 := hv
      show (if 2 * n < 4294967296 then n else n + 18446744073709551616 - 4294967296) = ((if 2 * n < 4294967296 then (n : Int) else (n : Int) - ((4294967296 : Nat) : Int)) % 18446744073709551616).toNat
      split <;> omega
    · have hv' : n < 1099511627776 := hv
      show (if 2 * n < 1099511627776 then n else n + 18446744073709551616 - 1099511627776) = ((if 2 * n < 1099511627776 then (n : Int) else (n : Int) - ((1099511627776 : Nat) : Int)) % 18446744073709551616).toNat
      split <;> omega
    · have hv' : n < 281474976710656 := hv
      show (if 2 * n < 281474976710656 then n else n + 18446744073709551616 - 281474976710656) = ((if 2 * n < 281474976710656 then (n : Int) else (n : Int) - ((281474976710656 : Nat) : Int)) % 18446744073709551616).toNat
      split <;> omega
    · have hv' : n < 72057594037927936 := hv
      show (if 2 * n < 72057594037927936 then n else n + 18446744073709551616 - 72057594037927936) = ((if 2 * n < 72057594037927936 then (n : Int) else (n : Int) - ((72057594037927936 : Nat) : Int)) % 18446744073709551616).toNat
      split <;> omega
    · have hv' : n < 18446744073709551616 := hv
      show (if 2 * n < 18446744073709551616 then n else n + 18446744073709551616 - 18446744073709551616) = ((if 2 * n < 18446744073709551616 then (n : Int) else (n : Int) - ((18446744073709551616 : Nat) : Int)) % 18446744073709551616).toNat
      split <;> omega

theorem or_add (x : Nat) (b : UInt8) (hx : x < 72057594037927936) : bits .or .u64 ((x * 256 : Nat) : Int) ((b.toNat : Nat) : Int) = ((x * 256 + b.toNat : Nat) : Int) := by
  have hb : b.toNat < 256 := b.toNat_lt
  rw [u64_or_nat _ _ (by omega) (by omega)]
  congr 1
  have := Nat.two_pow_add_eq_or_of_lt (i := 8) hb x
  rw [Nat.mul_comm] at this
  exact this.symm

set_option maxRecDepth 100000 in
set_option maxHeartbeats 4000000 in
theorem rnumber_plain (rb B : Nat) (st : RS) (size : Int) (w : World) (h : RAt w rb B st) :
    Calls Try.prog 33 #[.pointer (some ⟨rb, 0, none⟩), .agg #[fv 40], .int .i64 size] w fun e w' => e = .returned (.int .u64 ((rNum st size).1 : Nat)) ∧ RDid w w' rb B (rNumL st size).2 := by
  have HH : Keep (RAt w rb B st) := ⟨h⟩
  clear h
  go_enter Try.func33, Try.ntmps33
  by_cases hs : sized size
  · have HS : Keep (sized size) := ⟨hs⟩
    have HC : Keep (∀ W : World, Calls Try.prog 41 #[.int .i64 size] W fun e w' => e = .returned (.bool true) ∧ w' = W) := ⟨fun W => by
      have := sized_c size W
      rwa [decide_eq_true hs] at this⟩
    have HR : Keep (rNumL st size = rTake st size) := ⟨by unfold rNumL; rw [if_pos hs]⟩
    clear hs
    go_wp2_with fail
    obtain ⟨w1, hw1⟩ : ∃ w1, w.alloc (.cells #[fv 40] 61) = w1 := ⟨_, rfl⟩
    obtain ⟨kb, hkb⟩ : ∃ kb, w.heap.size = kb := ⟨_, rfl⟩
    have HG : Keep (w.grownBy w1 none ∧ Has w1 kb [fv 40] 61 ∧ rb ≠ kb) := ⟨by rw [← hw1]; exact World.grownBy_alloc _ _ _, by rw [← hw1, ← hkb]; exact Has.newA w #[fv 40] 61, by obtain ⟨⟨a, c, q, _⟩, _⟩ := HH.out; have := q.lt; omega⟩
    rw [hw1]
    simp only [hkb]
    clear hw1 hkb
    refine (HC.out w1).mono ?_
    rintro e w1' ⟨rfl, hw⟩
    subst hw
    go_wp2_with fail
    refine (rtake_c rb B st size w1' (HH.out.kept HG.out.1)).mono ?_
    rintro e w2 ⟨a, c, rfl, hb, d2⟩
    obtain ⟨l, hl⟩ : ∃ l, (rTake st size).1 = l := ⟨_, rfl⟩
    have HL : Keep (l.length = 0 ∨ (l.length : Int) = size) := ⟨by rw [← hl]; exact rTake_len st size⟩
    have H8 : l.length ≤ 8 := by have := HS.out.2; have := HL.out; omega
    have HN : Keep ((rNumL st size).1 = l) := ⟨by rw [HR.out]; exact hl⟩
    rw [hl] at hb ⊢
    have HB : Keep (Bs w2 B a l.length c l) := ⟨hb⟩
    have HD : Keep (RDid w w2 rb B (rNumL st size).2) := ⟨by rw [HR.out]; exact d2.ahead HG.out.1⟩
    have c0 : w2.cell? ⟨kb, 0, none⟩ = some (fv 40) := (HG.out.2.1.fr d2.f (fun e => HG.out.2.2 e.symm)).cellv 0 _ rfl
    clear hb d2 hl HC HH HG HR
    obtain ⟨n, hn⟩ : ∃ n, l.length = n := ⟨_, rfl⟩
    rw [hn] at HB HL H8 ⊢
    have HLN : Keep (l.length = n) := ⟨hn⟩
    clear hn
    go_wp2_with fail
    go_loopw [7, 9, 19] (fun s7 s9 s19 w' => ∃ i : Nat, i ≤ n ∧ s7 = .int .u64 (val (l.take i) : Nat) ∧ (∃ b : UInt8, s9 = .int .u8 b.toNat ∨ s9 = undef) ∧ s19 = .int .i64 i ∧ w' = w2) (fun _ _ s19 _ => n - (intOf s19).toNat)
    case atStart => exact ⟨0, by omega, rfl, ⟨0, .inr rfl⟩, rfl, rfl⟩
    case round =>
      obtain ⟨i, hi, rfl, hb9, rfl, rfl⟩ := hrel
      by_cases hin : i < n
      · have hin2 : (i : Int) < n := by omega
        obtain ⟨o, rfl, hc⟩ := HB.out.at_ (by omega)
        obtain ⟨b, hb⟩ : ∃ b, l[i]? = some b := ⟨_, List.getElem?_eq_getElem (by rw [HLN.out]; exact hin)⟩
        have hcell : wr.cell? ⟨B, o + i, none⟩ = some (.int .u8 b.toNat) := hc i b hb
        have hx : val (l.take i) < 72057594037927936 := by
          have h1 := val_lt (l.take i)
          have h2 : (l.take i).length ≤ 7 := by rw [List.length_take]; omega
          have h3 : 256 ^ (l.take i).length ≤ 256 ^ 7 := Nat.pow_le_pow_right (by omega) h2
          have h4 : (256 : Nat) ^ 7 = 72057594037927936 := by decide
          omega
        have hst : val (l.take (i + 1)) = val (l.take i) * 256 + b.toNat := by
          obtain ⟨q1, q2⟩ := List.getElem?_eq_some_iff.1 hb
          rw [List.take_succ_eq_append_getElem q1, q2, val_snoc]
        obtain ⟨x, hxx⟩ : ∃ x, val (l.take i) = x := ⟨_, rfl⟩
        obtain ⟨y, hyy⟩ : ∃ y, val (l.take (i + 1)) = y := ⟨_, rfl⟩
        rw [hxx] at hx hst
        rw [hyy] at hst
        have HY : Keep (val (l.take (i + 1)) = y) := ⟨hyy⟩
        rw [hxx]
        have ho := or_add x b hx
        rw [← hst] at ho
        have HO : Keep (bits .or .u64 ((x : Int) * 256) (IntKind.u64.wrap (b.toNat : Int)) = (y : Int)) := ⟨by
          have hb' : b.toNat < 256 := b.toNat_lt
          rw [show IntKind.u64.wrap (b.toNat : Int) = (b.toNat : Int) by rw [wu]; omega]
          rw [← ho]; congr 1⟩
        clear ho
        have hm : IntKind.u64.wrap ((x : Int) * 256) = ((x * 256 : Nat) : Int) := by rw [wu]; omega
        have hwi : IntKind.i64.wrap ((i : Int) + 1) = ((i + 1 : Nat) : Int) := by rw [wi _ (by omega) (by omega)]; omega
        clear hc hb hst hxx hyy hb9
        go_wp2
        refine ⟨⟨i + 1, by omega, by rw [HY.out, ← HO.out], ⟨b, .inl rfl⟩, by simp, by trivial⟩, ?_⟩
        simp only [intOf]; omega
      · have hin2 : ¬ (i : Int) < n := by omega
        have he : l.take i = l := List.take_of_length_le (by rw [HLN.out]; omega)
        rw [he]
        have hv : val l < 18446744073709551616 := by
          have h1 := val_lt l
          have h3 : 256 ^ l.length ≤ 256 ^ 8 := Nat.pow_le_pow_right (by omega) (by rw [HLN.out]; exact H8)
          have h4 : (256 : Nat) ^ 8 = 18446744073709551616 := by decide
          omega
        have HW : Keep (∀ W : World, Calls Try.prog 40 #[.int .u64 (val l : Nat), .int .i64 (8 * (8 - size))] W fun e w' => e = .returned (.int .u64 ((rNum st size).1 : Nat)) ∧ w' = W) := ⟨fun W => by
          have := plain1_c (val l) size W hv HS.out
          have e : val l % 256 ^ size.toNat = (rNum st size).1 := by
            unfold rNum
            rw [HN.out]
            refine Nat.mod_eq_of_lt ?_
            have h1 := val_lt l
            have h3 : 256 ^ l.length ≤ 256 ^ size.toNat := Nat.pow_le_pow_right (by omega) (by have := HL.out; have := HLN.out; omega)
            omega
          rwa [e] at this⟩
        obtain ⟨x, hxx⟩ : ∃ x, val l = x := ⟨_, rfl⟩
        obtain ⟨y, hyy⟩ : ∃ y, (rNum st size).1 = y := ⟨_, rfl⟩
        rw [hxx, hyy] at HW
        rw [hxx]
        have HYY : Keep (((rNum st size).1 : Nat) = y) := ⟨hyy⟩
        clear hxx hyy hv he hb9
        go_wp2_with fail
        go_quiet (first | (go_at_call 43; exact Calls.quiet_of_same (spare_c size _ HS.out)) | (go_at_call 40; exact Calls.quiet_of_same (HW.out _)))
        go_wp2
        go_ret
        exact ⟨by rw [HYY.out]; rfl, HD.out.grown (gr_drewN _ _ _)⟩
  · have HC : Keep (∀ W : World, Calls Try.prog 41 #[.int .i64 size] W fun e w' => e = .returned (.bool false) ∧ w' = W) := ⟨fun W => by
      have := sized_c size W
      rwa [decide_eq_false hs] at this⟩
    have HR : Keep (rNumL st size = ([], st.fail 51)) := ⟨by unfold rNumL; rw [if_neg hs]⟩
    clear hs
    go_wp2_with fail
    obtain ⟨w1, hw1⟩ : ∃ w1, w.alloc (.cells #[fv 40] 61) = w1 := ⟨_, rfl⟩
    have HG : Keep (w.grownBy w1 none) := ⟨by rw [← hw1]; exact World.grownBy_alloc _ _ _⟩
    rw [hw1]
    clear hw1
    refine (HC.out w1).mono ?_
    rintro e w1' ⟨rfl, hw⟩
    subst hw
    go_wp2_with fail
    refine (rfail_c rb B st 51 w1' (HH.out.kept HG.out)).mono ?_
    rintro e w2 ⟨rfl, d2⟩
    have HD : Keep (RDid w w2 rb B (st.fail 51)) := ⟨d2.ahead HG.out⟩
    clear d2
    go_wp2
    go_ret
    have e0 : (rNum st size).1 = 0 := by
      unfold rNum; rw [HR.out]; rfl
    rw [e0, HR.out]
    exact ⟨rfl, HD.out⟩

set_option maxRecDepth 100000 in
set_option maxHeartbeats 4000000 in
theorem rnumber_signed (rb B : Nat) (st : RS) (size : Int) (w : World) (h : RAt w rb B st) :
    Calls Try.prog 33 #[.pointer (some ⟨rb, 0, none⟩), .agg #[fv 44], .int .i64 size] w fun e w' => e = .returned (.int .u64 (u64 (rSig st size).1 : Nat)) ∧ RDid w w' rb B (rNumL st size).2 := by
  have HH : Keep (RAt w rb B st) := ⟨h⟩
  clear h
  go_enter Try.func33, Try.ntmps33
  by_cases hs : sized size
  · have HS : Keep (sized size) := ⟨hs⟩
    have HC : Keep (∀ W : World, Calls Try.prog 41 #[.int .i64 size] W fun e w' => e = .returned (.bool true) ∧ w' = W) := ⟨fun W => by
      have := sized_c size W
      rwa [decide_eq_true hs] at this⟩
    have HR : Keep (rNumL st size = rTake st size) := ⟨by unfold rNumL; rw [if_pos hs]⟩
    clear hs
    go_wp2_with fail
    obtain ⟨w1, hw1⟩ : ∃ w1, w.alloc (.cells #[fv 44] 61) = w1 := ⟨_, rfl⟩
    obtain ⟨kb, hkb⟩ : ∃ kb, w.heap.size = kb := ⟨_, rfl⟩
    have HG : Keep (w.grownBy w1 none ∧ Has w1 kb [fv 44] 61 ∧ rb ≠ kb) := ⟨by rw [← hw1]; exact World.grownBy_alloc _ _ _, by rw [← hw1, ← hkb]; exact Has.newA w #[fv 44] 61, by obtain ⟨⟨a, c, q, _⟩, _⟩ := HH.out; have := q.lt; omega⟩
    rw [hw1]
    simp only [hkb]
    clear hw1 hkb
    refine (HC.out w1).mono ?_
    rintro e w1' ⟨rfl, hw⟩
    subst hw
    go_wp2_with fail
    refine (rtake_c rb B st size w1' (HH.out.kept HG.out.1)).mono ?_
    rintro e w2 ⟨a, c, rfl, hb, d2⟩
    obtain ⟨l, hl⟩ : ∃ l, (rTake st size).1 = l := ⟨_, rfl⟩
    have HL : Keep (l.length = 0 ∨ (l.length : Int) = size) := ⟨by rw [← hl]; exact rTake_len st size⟩
    have H8 : l.length ≤ 8 := by have := HS.out.2; have := HL.out; omega
    have HN : Keep ((rNumL st size).1 = l) := ⟨by rw [HR.out]; exact hl⟩
    rw [hl] at hb ⊢
    have HB : Keep (Bs w2 B a l.length c l) := ⟨hb⟩
    have HD : Keep (RDid w w2 rb B (rNumL st size).2) := ⟨by rw [HR.out]; exact d2.ahead HG.out.1⟩
    have c0 : w2.cell? ⟨kb, 0, none⟩ = some (fv 44) := (HG.out.2.1.fr d2.f (fun e => HG.out.2.2 e.symm)).cellv 0 _ rfl
    clear hb d2 hl HC HH HG HR
    obtain ⟨n, hn⟩ : ∃ n, l.length = n := ⟨_, rfl⟩
    rw [hn] at HB HL H8 ⊢
    have HLN : Keep (l.length = n) := ⟨hn⟩
    clear hn
    go_wp2_with fail
    go_loopw [7, 9, 19] (fun s7 s9 s19 w' => ∃ i : Nat, i ≤ n ∧ s7 = .int .u64 (val (l.take i) : Nat) ∧ (∃ b : UInt8, s9 = .int .u8 b.toNat ∨ s9 = undef) ∧ s19 = .int .i64 i ∧ w' = w2) (fun _ _ s19 _ => n - (intOf s19).toNat)
    case atStart => exact ⟨0, by omega, rfl, ⟨0, .inr rfl⟩, rfl, rfl⟩
    case round =>
      obtain ⟨i, hi, rfl, hb9, rfl, rfl⟩ := hrel
      by_cases hin : i < n
      · have hin2 : (i : Int) < n := by omega
        obtain ⟨o, rfl, hc⟩ := HB.out.at_ (by omega)
        obtain ⟨b, hb⟩ : ∃ b, l[i]? = some b := ⟨_, List.getElem?_eq_getElem (by rw [HLN.out]; exact hin)⟩
        have hcell : wr.cell? ⟨B, o + i, none⟩ = some (.int .u8 b.toNat) := hc i b hb
        have hx : val (l.take i) < 72057594037927936 := by
          have h1 := val_lt (l.take i)
          have h2 : (l.take i).length ≤ 7 := by rw [List.length_take]; omega
          have h3 : 256 ^ (l.take i).length ≤ 256 ^ 7 := Nat.pow_le_pow_right (by omega) h2
          have h4 : (256 : Nat) ^ 7 = 72057594037927936 := by decide
          omega
        have hst : val (l.take (i + 1)) = val (l.take i) * 256 + b.toNat := by
          obtain ⟨q1, q2⟩ := List.getElem?_eq_some_iff.1 hb
          rw [List.take_succ_eq_append_getElem q1, q2, val_snoc]
        obtain ⟨x, hxx⟩ : ∃ x, val (l.take i) = x := ⟨_, rfl⟩
        obtain ⟨y, hyy⟩ : ∃ y, val (l.take (i + 1)) = y := ⟨_, rfl⟩
        rw [hxx] at hx hst
        rw [hyy] at hst
        have HY : Keep (val (l.take (i + 1)) = y) := ⟨hyy⟩
        rw [hxx]
        have ho := or_add x b hx
        rw [← hst] at ho
        have HO : Keep (bits .or .u64 ((x : Int) * 256) (IntKind.u64.wrap (b.toNat : Int)) = (y : Int)) := ⟨by
          have hb' : b.toNat < 256 := b.toNat_lt
          rw [show IntKind.u64.wrap (b.toNat : Int) = (b.toNat : Int) by rw [wu]; omega]
          rw [← ho]; congr 1⟩
        clear ho
        have hm : IntKind.u64.wrap ((x : Int) * 256) = ((x * 256 : Nat) : Int) := by rw [wu]; omega
        have hwi : IntKind.i64.wrap ((i : Int) + 1) = ((i + 1 : Nat) : Int) := by rw [wi _ (by omega) (by omega)]; omega
        clear hc hb hst hxx hyy hb9
        go_wp2
        refine ⟨⟨i + 1, by omega, by rw [HY.out, ← HO.out], ⟨b, .inl rfl⟩, by simp, by trivial⟩, ?_⟩
        simp only [intOf]; omega
      · have hin2 : ¬ (i : Int) < n := by omega
        have he : l.take i = l := List.take_of_length_le (by rw [HLN.out]; omega)
        rw [he]
        have hv : val l < 18446744073709551616 := by
          have h1 := val_lt l
          have h3 : 256 ^ l.length ≤ 256 ^ 8 := Nat.pow_le_pow_right (by omega) (by rw [HLN.out]; exact H8)
          have h4 : (256 : Nat) ^ 8 = 18446744073709551616 := by decide
          omega
        have HW : Keep (∀ W : World, Calls Try.prog 44 #[.int .u64 (val l : Nat), .int .i64 (8 * (8 - size))] W fun e w' => e = .returned (.int .u64 (u64 (rSig st size).1 : Nat)) ∧ w' = W) := ⟨fun W => by
          have := signed1_c (val l) size W hv HS.out
          have e : sx (val l) size.toNat = u64 (rSig st size).1 := by
            unfold rSig
            rw [HN.out]
            exact sx_val l size HS.out (by rw [HLN.out]; exact HL.out)
          rwa [e] at this⟩
        obtain ⟨x, hxx⟩ : ∃ x, val l = x := ⟨_, rfl⟩
        obtain ⟨y, hyy⟩ : ∃ y, u64 (rSig st size).1 = y := ⟨_, rfl⟩
        rw [hxx, hyy] at HW
        rw [hxx]
        have HYY : Keep ((u64 (rSig st size).1 : Nat) = y) := ⟨hyy⟩
        clear hxx hyy hv he hb9
        go_wp2_with fail
        go_quiet (first | (go_at_call 43; exact Calls.quiet_of_same (spare_c size _ HS.out)) | (go_at_call 44; exact Calls.quiet_of_same (HW.out _)))
        go_wp2
        go_ret
        exact ⟨by rw [HYY.out]; rfl, HD.out.grown (gr_drewN _ _ _)⟩
  · have HC : Keep (∀ W : World, Calls Try.prog 41 #[.int .i64 size] W fun e w' => e = .returned (.bool false) ∧ w' = W) := ⟨fun W => by
      have := sized_c size W
      rwa [decide_eq_false hs] at this⟩
    have HR : Keep (rNumL st size = ([], st.fail 51)) := ⟨by unfold rNumL; rw [if_neg hs]⟩
    clear hs
    go_wp2_with fail
    obtain ⟨w1, hw1⟩ : ∃ w1, w.alloc (.cells #[fv 44] 61) = w1 := ⟨_, rfl⟩
    have HG : Keep (w.grownBy w1 none) := ⟨by rw [← hw1]; exact World.grownBy_alloc _ _ _⟩
    rw [hw1]
    clear hw1
    refine (HC.out w1).mono ?_
    rintro e w1' ⟨rfl, hw⟩
    subst hw
    go_wp2_with fail
    refine (rfail_c rb B st 51 w1' (HH.out.kept HG.out)).mono ?_
    rintro e w2 ⟨rfl, d2⟩
    have HD : Keep (RDid w w2 rb B (st.fail 51)) := ⟨d2.ahead HG.out⟩
    clear d2
    go_wp2
    go_ret
    have e0 : u64 (rSig st size).1 = 0 := by
      unfold rSig; rw [HR.out]; rfl
    rw [e0, HR.out]
    exact ⟨rfl, HD.out⟩
end Go.Proofs.Ytkddfnglonofoaa
