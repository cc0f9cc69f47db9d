import Derived.Test.YtldnpebnpbahjaaGreatDoorX3
set_option maxRecDepth 100000
set_option maxHeartbeats 4000000
namespace Go.Proofs.YtldnpebnpbahjaaGreatDoor.Pk
open Go Go.RowKit Go.Proofs.Tryz
theorem sx_val (l : List UInt8) (size : Int) (hs : sized size) (hl : l.length = 0 ∨ (l.length : Int) = size) : sx (val l) size.toNat = u64 (sval l) := by
  have h8 : size = 1 ∨ size = 2 ∨ size = 3 ∨ size = 4 ∨ size = 5 ∨ size = 6 ∨ size = 7 ∨ size = 8 := by obtain ⟨h1, h2⟩ := hs; omega
  have hv := val_lt l; rcases hl with hl | hl
  · have : l = [] := List.eq_nil_of_length_eq_zero hl; subst this; rcases h8 with rfl | rfl | rfl | rfl | rfl | rfl | rfl | rfl <;> decide
  · obtain ⟨n, hn⟩ : ∃ n, val l = n := ⟨_, rfl⟩; obtain ⟨k, hk⟩ : ∃ k, l.length = k := ⟨_, rfl⟩; (have e : size.toNat = k := by omega); unfold sx sval u64; rw [hn, hk] at hv; rw [hn, hk, e]; (have h9 : k = 1 ∨ k = 2 ∨ k = 3 ∨ k = 4 ∨ k = 5 ∨ k = 6 ∨ k = 7 ∨ k = 8 := by omega); rw [Nat.mod_eq_of_lt hv]; clear hk hn e hl h8 hs; rcases h9 with rfl | rfl | rfl | rfl | rfl | rfl | rfl | rfl
    · have hv' : n < 256 := hv; show (if 2 * n < 256 then n else n + 18446744073709551616 - 256) = ((if 2 * n < 256 then (n : Int) else (n : Int) - ((256 : Nat) : Int)) % 18446744073709551616).toNat; split <;> omega
    · have hv' : n < 65536 := hv; show (if 2 * n < 65536 then n else n + 18446744073709551616 - 65536) = ((if 2 * n < 65536 then (n : Int) else (n : Int) - ((65536 : Nat) : Int)) % 18446744073709551616).toNat; split <;> omega
    · have hv' : n < 16777216 := hv; show (if 2 * n < 16777216 then n else n + 18446744073709551616 - 16777216) = ((if 2 * n < 16777216 then (n : Int) else (n : Int) - ((16777216 : Nat) : Int)) % 18446744073709551616).toNat; split <;> omega
    · have hv' : n < 4294967296 := hv; show (if 2 * n < 4294967296 then n else n + 18446744073709551616 - 4294967296) = ((if 2 * n < 4294967296 then (n : Int) else (n : Int) - ((4294967296 : Nat) : Int)) % 18446744073709551616).toNat; split <;> omega
    · have hv' : n < 1099511627776 := hv; show (if 2 * n < 1099511627776 then n else n + 18446744073709551616 - 1099511627776) = ((if 2 * n < 1099511627776 then (n : Int) else (n : Int) - ((1099511627776 : Nat) : Int)) % 18446744073709551616).toNat; split <;> omega
    · have hv' : n < 281474976710656 := hv; show (if 2 * n < 281474976710656 then n else n + 18446744073709551616 - 281474976710656) = ((if 2 * n < 281474976710656 then (n : Int) else (n : Int) - ((281474976710656 : Nat) : Int)) % 18446744073709551616).toNat; split <;> omega
    · have hv' : n < 72057594037927936 := hv; show (if 2 * n < 72057594037927936 then n else n + 18446744073709551616 - 72057594037927936) = ((if 2 * n < 72057594037927936 then (n : Int) else (n : Int) - ((72057594037927936 : Nat) : Int)) % 18446744073709551616).toNat; split <;> omega
    · have hv' : n < 18446744073709551616 := hv; show (if 2 * n < 18446744073709551616 then n else n + 18446744073709551616 - 18446744073709551616) = ((if 2 * n < 18446744073709551616 then (n : Int) else (n : Int) - ((18446744073709551616 : Nat) : Int)) % 18446744073709551616).toNat; split <;> omega
theorem or_add (x : Nat) (b : UInt8) (hx : x < 72057594037927936) : bits .or .u64 ((x * 256 : Nat) : Int) ((b.toNat : Nat) : Int) = ((x * 256 + b.toNat : Nat) : Int) := by
  have hb : b.toNat < 256 := b.toNat_lt; rw [u64_or_nat _ _ (by omega) (by omega)]
  congr 1
  have := Nat.two_pow_add_eq_or_of_lt (i := 8) hb x; rw [Nat.mul_comm] at this; exact this.symm
theorem rnumber_plain (rb B : Nat) (st : RS) (size : Int) (w : World) (h : RAt w rb B st) :
    Calls prog 212 #[.pointer (some ⟨rb, 0, none⟩), .agg #[fv 215], .int .i64 size] w fun e w' => e = .returned (.int .u64 ((rNum st size).1 : Nat)) ∧ RDid w w' rb B (rNumL st size).2 := by
  have HH : Kp (RAt w rb B st) := ⟨h⟩; clear h; go_enter func212, ntmps212; by_cases hs : sized size
  · have HS : Kp (sized size) := ⟨hs⟩
    have HC : Kp (∀ W : World, CRs 231 #[.int .i64 size] W (.bool true)) := ⟨fun W => by
      have := sized_c size W
      rwa [decide_eq_true hs] at this⟩
    have HR : Kp (rNumL st size = rTake st size) := ⟨by unfold rNumL; rw [if_pos hs]⟩; clear hs; go_wp2_with fail; obtain ⟨w1, hw1⟩ : ∃ w1, w.alloc (.cells #[fv 215] 226) = w1 := ⟨_, rfl⟩; obtain ⟨kb, hkb⟩ : ∃ kb, w.heap.size = kb := ⟨_, rfl⟩; have HG : Kp (w.grownBy w1 none ∧ Has w1 kb [fv 215] 226 ∧ rb ≠ kb) := ⟨by rw [← hw1]; exact gAl _ _ _, by rw [← hw1, ← hkb]; exact Has.newA w #[fv 215] 226, by obtain ⟨⟨a, c, q, _⟩, _⟩ := HH.out; have := q.lt; omega⟩; rw [hw1]; simp only [hkb]; clear hw1 hkb; refine (HC.out w1).mono ?_; rintro e w1' ⟨rfl, hw⟩; subst hw; go_wp2_with fail; refine (rtake_c rb B st size w1' (HH.out.kept HG.out.1)).mono ?_; rintro e w2 ⟨a, c, rfl, hb, d2⟩; obtain ⟨l, hl⟩ : ∃ l, (rTake st size).1 = l := ⟨_, rfl⟩; have HL : Kp (l.length = 0 ∨ (l.length : Int) = size) := ⟨by rw [← hl]; exact rTake_len st size⟩; have H8 : l.length ≤ 8 := by have := HS.out.2; have := HL.out; omega
    have HN : Kp ((rNumL st size).1 = l) := ⟨by rw [HR.out]; exact hl⟩; rw [hl] at hb ⊢; have HB : Kp (Bs w2 B a l.length c l) := ⟨hb⟩; have HD : Kp (RDid w w2 rb B (rNumL st size).2) := ⟨by rw [HR.out]; exact d2.ahead HG.out.1⟩; have c0 : w2.cell? ⟨kb, 0, none⟩ = some (fv 215) := (HG.out.2.1.fr d2.f (fun e => HG.out.2.2 e.symm)).cellv 0 _ rfl; clear hb d2 hl HC HH HG HR; obtain ⟨n, hn⟩ : ∃ n, l.length = n := ⟨_, rfl⟩; rw [hn] at HB HL H8 ⊢; have HLN : Kp (l.length = n) := ⟨hn⟩; clear hn; go_wp2_with fail
    go_loopw [7, 9, 19] (fun s7 s9 s19 w' => ∃ i : Nat, i ≤ n ∧ s7 = .int .u64 (val (l.take i) : Nat) ∧ (∃ b : UInt8, s9 = .int .u8 b.toNat ∨ s9 = undef) ∧ s19 = .int .i64 i ∧ w' = w2) (fun _ _ s19 _ => n - (intOf s19).toNat)
    case atStart => exact ⟨0, by omega, rfl, ⟨0, .inr rfl⟩, rfl, rfl⟩
    case round =>
      obtain ⟨i, hi, rfl, hb9, rfl, rfl⟩ := hrel; by_cases hin : i < n
      · (have hin2 : (i : Int) < n := by omega); obtain ⟨o, rfl, hc⟩ := HB.out.at_ (by omega); obtain ⟨b, hb⟩ : ∃ b, l[i]? = some b := ⟨_, List.getElem?_eq_getElem (by rw [HLN.out]; exact hin)⟩; have hcell : wr.cell? ⟨B, o + i, none⟩ = some (.int .u8 b.toNat) := hc i b hb
        have hx : val (l.take i) < 72057594037927936 := by
          have h1 := val_lt (l.take i); (have h2 : (l.take i).length ≤ 7 := by rw [List.length_take]; omega); have h3 : 256 ^ (l.take i).length ≤ 256 ^ 7 := Nat.pow_le_pow_right (by omega) h2; (have h4 : (256 : Nat) ^ 7 = 72057594037927936 := by decide); omega
        have hst : val (l.take (i + 1)) = val (l.take i) * 256 + b.toNat := by
          obtain ⟨q1, q2⟩ := List.getElem?_eq_some_iff.1 hb; rw [List.take_succ_eq_append_getElem q1, q2, val_snoc]
        obtain ⟨x, hxx⟩ : ∃ x, val (l.take i) = x := ⟨_, rfl⟩; obtain ⟨y, hyy⟩ : ∃ y, val (l.take (i + 1)) = y := ⟨_, rfl⟩; rw [hxx] at hx hst; rw [hyy] at hst; have HY : Kp (val (l.take (i + 1)) = y) := ⟨hyy⟩; rw [hxx]; have ho := or_add x b hx; rw [← hst] at ho
        have HO : Kp (bits .or .u64 ((x : Int) * 256) (IntKind.u64.wrap (b.toNat : Int)) = (y : Int)) := ⟨by
          have hb' : b.toNat < 256 := b.toNat_lt; rw [show IntKind.u64.wrap (b.toNat : Int) = (b.toNat : Int) by rw [wu]; omega]
          rw [← ho]; congr 1⟩
        clear ho; (have hm : IntKind.u64.wrap ((x : Int) * 256) = ((x * 256 : Nat) : Int) := by rw [wu]; omega); (have hwi : IntKind.i64.wrap ((i : Int) + 1) = ((i + 1 : Nat) : Int) := by rw [wi _ (by omega) (by omega)]; omega); clear hc hb hst hxx hyy hb9
        go_wp2
        refine ⟨⟨i + 1, by omega, by rw [HY.out, ← HO.out], ⟨b, .inl rfl⟩, by simp, by trivial⟩, ?_⟩; simp only [intOf]; omega
      · (have hin2 : ¬ (i : Int) < n := by omega); have he : l.take i = l := List.take_of_length_le (by rw [HLN.out]; omega); rw [he]
        have hv : val l < 18446744073709551616 := by
          have h1 := val_lt l; have h3 : 256 ^ l.length ≤ 256 ^ 8 := Nat.pow_le_pow_right (by omega) (by rw [HLN.out]; exact H8); (have h4 : (256 : Nat) ^ 8 = 18446744073709551616 := by decide); omega
        have HW : Kp (∀ W : World, CRs 215 #[.int .u64 (val l : Nat), .int .i64 (8 * (8 - size))] W (.int .u64 ((rNum st size).1 : Nat))) := ⟨fun W => by
          have := plain1_c (val l) size W hv HS.out
          have e : val l % 256 ^ size.toNat = (rNum st size).1 := by
            unfold rNum; rw [HN.out]; refine Nat.mod_eq_of_lt ?_; have h1 := val_lt l; have h3 : 256 ^ l.length ≤ 256 ^ size.toNat := Nat.pow_le_pow_right (by omega) (by have := HL.out; have := HLN.out; omega); omega
          rwa [e] at this⟩
        obtain ⟨x, hxx⟩ : ∃ x, val l = x := ⟨_, rfl⟩; obtain ⟨y, hyy⟩ : ∃ y, (rNum st size).1 = y := ⟨_, rfl⟩; rw [hxx, hyy] at HW; rw [hxx]; have HYY : Kp (((rNum st size).1 : Nat) = y) := ⟨hyy⟩; clear hxx hyy hv he hb9; go_wp2_with fail; go_quiet (first | (go_at_call 232; exact Calls.quiet_of_same (spare_c size _ HS.out)) | (go_at_call 215; exact Calls.quiet_of_same (HW.out _)))
        go_wp2
        go_ret; exact ⟨by rw [HYY.out]; rfl, HD.out.grown (gr_drewN _ _ _)⟩
  · have HC : Kp (∀ W : World, CRs 231 #[.int .i64 size] W (.bool false)) := ⟨fun W => by
      have := sized_c size W
      rwa [decide_eq_false hs] at this⟩
    have HR : Kp (rNumL st size = ([], st.fail 51)) := ⟨by unfold rNumL; rw [if_neg hs]⟩; clear hs; go_wp2_with fail; obtain ⟨w1, hw1⟩ : ∃ w1, w.alloc (.cells #[fv 215] 226) = w1 := ⟨_, rfl⟩; have HG : Kp (w.grownBy w1 none) := ⟨by rw [← hw1]; exact gAl _ _ _⟩; rw [hw1]; clear hw1; refine (HC.out w1).mono ?_; rintro e w1' ⟨rfl, hw⟩; subst hw; go_wp2_with fail; refine (rfail_c rb B st 51 w1' (HH.out.kept HG.out)).mono ?_; rintro e w2 ⟨rfl, d2⟩; have HD : Kp (RDid w w2 rb B (st.fail 51)) := ⟨d2.ahead HG.out⟩; clear d2
    go_wp2
    go_ret
    have e0 : (rNum st size).1 = 0 := by
      unfold rNum; rw [HR.out]; rfl
    rw [e0, HR.out]; exact ⟨rfl, HD.out⟩
theorem rnumber_signed (rb B : Nat) (st : RS) (size : Int) (w : World) (h : RAt w rb B st) :
    Calls prog 212 #[.pointer (some ⟨rb, 0, none⟩), .agg #[fv 233], .int .i64 size] w fun e w' => e = .returned (.int .u64 (u64 (rSig st size).1 : Nat)) ∧ RDid w w' rb B (rNumL st size).2 := by
  have HH : Kp (RAt w rb B st) := ⟨h⟩; clear h; go_enter func212, ntmps212; by_cases hs : sized size
  · have HS : Kp (sized size) := ⟨hs⟩
    have HC : Kp (∀ W : World, CRs 231 #[.int .i64 size] W (.bool true)) := ⟨fun W => by
      have := sized_c size W
      rwa [decide_eq_true hs] at this⟩
    have HR : Kp (rNumL st size = rTake st size) := ⟨by unfold rNumL; rw [if_pos hs]⟩; clear hs; go_wp2_with fail; obtain ⟨w1, hw1⟩ : ∃ w1, w.alloc (.cells #[fv 233] 226) = w1 := ⟨_, rfl⟩; obtain ⟨kb, hkb⟩ : ∃ kb, w.heap.size = kb := ⟨_, rfl⟩; have HG : Kp (w.grownBy w1 none ∧ Has w1 kb [fv 233] 226 ∧ rb ≠ kb) := ⟨by rw [← hw1]; exact gAl _ _ _, by rw [← hw1, ← hkb]; exact Has.newA w #[fv 233] 226, by obtain ⟨⟨a, c, q, _⟩, _⟩ := HH.out; have := q.lt; omega⟩; rw [hw1]; simp only [hkb]; clear hw1 hkb; refine (HC.out w1).mono ?_; rintro e w1' ⟨rfl, hw⟩; subst hw; go_wp2_with fail; refine (rtake_c rb B st size w1' (HH.out.kept HG.out.1)).mono ?_; rintro e w2 ⟨a, c, rfl, hb, d2⟩; obtain ⟨l, hl⟩ : ∃ l, (rTake st size).1 = l := ⟨_, rfl⟩; have HL : Kp (l.length = 0 ∨ (l.length : Int) = size) := ⟨by rw [← hl]; exact rTake_len st size⟩; have H8 : l.length ≤ 8 := by have := HS.out.2; have := HL.out; omega
    have HN : Kp ((rNumL st size).1 = l) := ⟨by rw [HR.out]; exact hl⟩; rw [hl] at hb ⊢; have HB : Kp (Bs w2 B a l.length c l) := ⟨hb⟩; have HD : Kp (RDid w w2 rb B (rNumL st size).2) := ⟨by rw [HR.out]; exact d2.ahead HG.out.1⟩; have c0 : w2.cell? ⟨kb, 0, none⟩ = some (fv 233) := (HG.out.2.1.fr d2.f (fun e => HG.out.2.2 e.symm)).cellv 0 _ rfl; clear hb d2 hl HC HH HG HR; obtain ⟨n, hn⟩ : ∃ n, l.length = n := ⟨_, rfl⟩; rw [hn] at HB HL H8 ⊢; have HLN : Kp (l.length = n) := ⟨hn⟩; clear hn; go_wp2_with fail
    go_loopw [7, 9, 19] (fun s7 s9 s19 w' => ∃ i : Nat, i ≤ n ∧ s7 = .int .u64 (val (l.take i) : Nat) ∧ (∃ b : UInt8, s9 = .int .u8 b.toNat ∨ s9 = undef) ∧ s19 = .int .i64 i ∧ w' = w2) (fun _ _ s19 _ => n - (intOf s19).toNat)
    case atStart => exact ⟨0, by omega, rfl, ⟨0, .inr rfl⟩, rfl, rfl⟩
    case round =>
      obtain ⟨i, hi, rfl, hb9, rfl, rfl⟩ := hrel; by_cases hin : i < n
      · (have hin2 : (i : Int) < n := by omega); obtain ⟨o, rfl, hc⟩ := HB.out.at_ (by omega); obtain ⟨b, hb⟩ : ∃ b, l[i]? = some b := ⟨_, List.getElem?_eq_getElem (by rw [HLN.out]; exact hin)⟩; have hcell : wr.cell? ⟨B, o + i, none⟩ = some (.int .u8 b.toNat) := hc i b hb
        have hx : val (l.take i) < 72057594037927936 := by
          have h1 := val_lt (l.take i); (have h2 : (l.take i).length ≤ 7 := by rw [List.length_take]; omega); have h3 : 256 ^ (l.take i).length ≤ 256 ^ 7 := Nat.pow_le_pow_right (by omega) h2; (have h4 : (256 : Nat) ^ 7 = 72057594037927936 := by decide); omega
        have hst : val (l.take (i + 1)) = val (l.take i) * 256 + b.toNat := by
          obtain ⟨q1, q2⟩ := List.getElem?_eq_some_iff.1 hb; rw [List.take_succ_eq_append_getElem q1, q2, val_snoc]
        obtain ⟨x, hxx⟩ : ∃ x, val (l.take i) = x := ⟨_, rfl⟩; obtain ⟨y, hyy⟩ : ∃ y, val (l.take (i + 1)) = y := ⟨_, rfl⟩; rw [hxx] at hx hst; rw [hyy] at hst; have HY : Kp (val (l.take (i + 1)) = y) := ⟨hyy⟩; rw [hxx]; have ho := or_add x b hx; rw [← hst] at ho
        have HO : Kp (bits .or .u64 ((x : Int) * 256) (IntKind.u64.wrap (b.toNat : Int)) = (y : Int)) := ⟨by
          have hb' : b.toNat < 256 := b.toNat_lt; rw [show IntKind.u64.wrap (b.toNat : Int) = (b.toNat : Int) by rw [wu]; omega]
          rw [← ho]; congr 1⟩
        clear ho; (have hm : IntKind.u64.wrap ((x : Int) * 256) = ((x * 256 : Nat) : Int) := by rw [wu]; omega); (have hwi : IntKind.i64.wrap ((i : Int) + 1) = ((i + 1 : Nat) : Int) := by rw [wi _ (by omega) (by omega)]; omega); clear hc hb hst hxx hyy hb9
        go_wp2
        refine ⟨⟨i + 1, by omega, by rw [HY.out, ← HO.out], ⟨b, .inl rfl⟩, by simp, by trivial⟩, ?_⟩; simp only [intOf]; omega
      · (have hin2 : ¬ (i : Int) < n := by omega); have he : l.take i = l := List.take_of_length_le (by rw [HLN.out]; omega); rw [he]
        have hv : val l < 18446744073709551616 := by
          have h1 := val_lt l; have h3 : 256 ^ l.length ≤ 256 ^ 8 := Nat.pow_le_pow_right (by omega) (by rw [HLN.out]; exact H8); (have h4 : (256 : Nat) ^ 8 = 18446744073709551616 := by decide); omega
        have HW : Kp (∀ W : World, CRs 233 #[.int .u64 (val l : Nat), .int .i64 (8 * (8 - size))] W (.int .u64 (u64 (rSig st size).1 : Nat))) := ⟨fun W => by
          have := signed1_c (val l) size W hv HS.out
          have e : sx (val l) size.toNat = u64 (rSig st size).1 := by
            unfold rSig; rw [HN.out]; exact sx_val l size HS.out (by rw [HLN.out]; exact HL.out)
          rwa [e] at this⟩
        obtain ⟨x, hxx⟩ : ∃ x, val l = x := ⟨_, rfl⟩; obtain ⟨y, hyy⟩ : ∃ y, u64 (rSig st size).1 = y := ⟨_, rfl⟩; rw [hxx, hyy] at HW; rw [hxx]; have HYY : Kp ((u64 (rSig st size).1 : Nat) = y) := ⟨hyy⟩; clear hxx hyy hv he hb9; go_wp2_with fail; go_quiet (first | (go_at_call 232; exact Calls.quiet_of_same (spare_c size _ HS.out)) | (go_at_call 233; exact Calls.quiet_of_same (HW.out _)))
        go_wp2
        go_ret; exact ⟨by rw [HYY.out]; rfl, HD.out.grown (gr_drewN _ _ _)⟩
  · have HC : Kp (∀ W : World, CRs 231 #[.int .i64 size] W (.bool false)) := ⟨fun W => by
      have := sized_c size W
      rwa [decide_eq_false hs] at this⟩
    have HR : Kp (rNumL st size = ([], st.fail 51)) := ⟨by unfold rNumL; rw [if_neg hs]⟩; clear hs; go_wp2_with fail; obtain ⟨w1, hw1⟩ : ∃ w1, w.alloc (.cells #[fv 233] 226) = w1 := ⟨_, rfl⟩; have HG : Kp (w.grownBy w1 none) := ⟨by rw [← hw1]; exact gAl _ _ _⟩; rw [hw1]; clear hw1; refine (HC.out w1).mono ?_; rintro e w1' ⟨rfl, hw⟩; subst hw; go_wp2_with fail; refine (rfail_c rb B st 51 w1' (HH.out.kept HG.out)).mono ?_; rintro e w2 ⟨rfl, d2⟩; have HD : Kp (RDid w w2 rb B (st.fail 51)) := ⟨d2.ahead HG.out⟩; clear d2
    go_wp2
    go_ret
    have e0 : u64 (rSig st size).1 = 0 := by
      unfold rSig; rw [HR.out]; rfl
    rw [e0, HR.out]; exact ⟨rfl, HD.out⟩
theorem rNumL_len (st : RS) (size : Int) : (rNumL st size).1.length ≤ 8 := by
  unfold rNumL; split
  · rename_i h; have := rTake_len st size; have := h.2; omega
  · simp
theorem sval8 (l : List UInt8) (h : l.length ≤ 8) : -9223372036854775808 ≤ sval l ∧ sval l < 9223372036854775808 := by
  have h1 := val_lt l; unfold sval; obtain ⟨n, hn⟩ : ∃ n, val l = n := ⟨_, rfl⟩; obtain ⟨k, hk⟩ : ∃ k, l.length = k := ⟨_, rfl⟩; rw [hn, hk] at h1 ⊢; have h9 : k = 0 ∨ k = 1 ∨ k = 2 ∨ k = 3 ∨ k = 4 ∨ k = 5 ∨ k = 6 ∨ k = 7 ∨ k = 8 := by omega
  clear hk hn h
  have key : ∀ p : Nat, p ≤ 18446744073709551616 → n < p → -9223372036854775808 ≤ (if 2 * n < p then (n : Int) else (n : Int) - (p : Nat)) ∧ (if 2 * n < p then (n : Int) else (n : Int) - (p : Nat)) < 9223372036854775808 := fun p hp hn => by
    split <;> omega
  refine key _ ?_ h1; have h3 : 256 ^ k ≤ 256 ^ 8 := Nat.pow_le_pow_right (by omega) (by omega); have h4 : (256 : Nat) ^ 8 = 18446744073709551616 := by decide
  omega
theorem rNum_lt1 (st : RS) : (rNum st 1).1 < 256 := by
  have h1 := val_lt (rNumL st 1).1
  have h2 : (rNumL st 1).1.length ≤ 1 := by
    unfold rNumL; split
    · have := rTake_len st 1; omega
    · simp
  have h3 : 256 ^ (rNumL st 1).1.length ≤ 256 ^ 1 := Nat.pow_le_pow_right (by omega) h2; show val (rNumL st 1).1 < 256; omega
theorem newR_c (s : ByteArray) (w : World) :
    Calls prog 93 #[.string s] w fun e w' => ∃ rb B, e = .returned (.pointer (some ⟨rb, 0, none⟩)) ∧ RAt w' rb B (sl s, 0) ∧ w.grownBy w' none ∧ w.heap.size ≤ rb ∧ w.heap.size ≤ B := by
  have hcv : ∀ W : World, (convert 9 60 (.string s)).run prog W = .ok (.slice (some ⟨W.heap.size, 0, none⟩) s.size (grownCap W s.size 0 5)) (Lib.bytesWorld W 5 s) := fun W => Lib.run_convert_string_bytes (P := prog) W 9 60 5 s (u := .string) under9 under53 under5
  have g1 : w.grownBy (Lib.bytesWorld w 5 s) none := ⟨rfl, rfl, rfl, by rw [Lib.bytesWorld_size]; omega, fun k hk _ => Lib.bytesWorld_at_old _ _ _ _ hk⟩
  have hb : Bs (Lib.bytesWorld w 5 s) w.heap.size (some ⟨w.heap.size, 0, none⟩) s.size (grownCap w s.size 0 5) (sl s) := by
    refine ⟨sl_len s, grownCap_ge w s.size 0 5, fun e => (by cases e), fun _ => ⟨0, rfl, fun j x hx => ?_⟩⟩; (have hj : j < s.size := by rw [← sl_len]; exact (List.getElem?_eq_some_iff.1 hx).1); rw [Nat.zero_add, Lib.bytesWorld_cell _ _ _ j hj]; unfold sl at hx; simp [List.getD, hx]
  have hz : w.heap.size < (Lib.bytesWorld w 5 s).heap.size := by rw [Lib.bytesWorld_size]; omega
  have HG : Kp (w.grownBy (Lib.bytesWorld w 5 s) none ∧ Bs (Lib.bytesWorld w 5 s) w.heap.size (some ⟨w.heap.size, 0, none⟩) s.size (grownCap w s.size 0 5) (sl s) ∧ w.heap.size < (Lib.bytesWorld w 5 s).heap.size) := ⟨g1, hb, hz⟩; clear g1 hb hz; have hcw := hcv w; clear hcv; obtain ⟨w1, hw1⟩ : ∃ w1, Lib.bytesWorld w 5 s = w1 := ⟨_, rfl⟩; obtain ⟨B, hB⟩ : ∃ B, w.heap.size = B := ⟨_, rfl⟩; obtain ⟨c, hc⟩ : ∃ c, grownCap w s.size 0 5 = c := ⟨_, rfl⟩; rw [hw1, hB, hc] at HG hcw; clear hw1 hc; go_enter func93, ntmps93
  go_wp2
  go_ret; obtain ⟨q1, q2, q3⟩ := HG.out; have g2 := gAl w1 (.cells #[.slice (some ⟨B, 0, none⟩) s.size c, .int .i64 0] 204) none; refine ⟨_, B, rfl, ⟨⟨some ⟨B, 0, none⟩, c, ?_, ?_⟩, by omega, Nat.lt_of_lt_of_le q3 g2.size, fun e => absurd rfl e⟩, q1.trans g2, by omega, by omega⟩
  · simp only [sl_len]; exact Has.newA w1 _ 204
  · simp only [sl_len]; exact q2.fr (S := fun _ => False) (Fr.ofNone g2) (fun e => e)
theorem rNumber_c (rb B : Nat) (st : RS) (size : Int) (w : World) (h : RAt w rb B st) :
    Calls prog 187 #[.pointer (some ⟨rb, 0, none⟩), .int .i64 size] w fun e w' => e = .returned (.int .u64 ((rNum st size).1 : Nat)) ∧ RDid w w' rb B (rNum st size).2 := by
  have HH : Kp (RAt w rb B st) := ⟨h⟩; clear h; go_enter func187, ntmps187; go_wp2_with fail; refine (plain_c w).mono ?_; rintro e w1 ⟨rfl, g1⟩; go_wp2_with fail; refine (rnumber_plain rb B st size w1 (HH.out.kept g1)).mono ?_; rintro e w2 ⟨rfl, d2⟩; have HD : Kp (RDid w w2 rb B (rNum st size).2) := ⟨d2.ahead g1⟩; clear d2 g1 HH
  go_wp2
  go_ret; exact ⟨rfl, HD.out⟩
theorem rSigned_c (rb B : Nat) (st : RS) (size : Int) (w : World) (h : RAt w rb B st) :
    Calls prog 216 #[.pointer (some ⟨rb, 0, none⟩), .int .i64 size] w fun e w' => e = .returned (.int .i64 (rSig st size).1) ∧ RDid w w' rb B (rSig st size).2 := by
  have HH : Kp (RAt w rb B st) := ⟨h⟩
  have HW : Kp (wrap64 (u64 (rSig st size).1 : Nat) = (rSig st size).1) := ⟨by
    have := sval8 _ (rNumL_len st size); have e : (rSig st size).1 = sval (rNumL st size).1 := rfl; rw [e]; unfold u64 wrap64
    omega⟩
  clear h; go_enter func216, ntmps216; go_wp2_with fail; refine (signed_c w).mono ?_; rintro e w1 ⟨rfl, g1⟩; go_wp2_with fail; refine (rnumber_signed rb B st size w1 (HH.out.kept g1)).mono ?_; rintro e w2 ⟨rfl, d2⟩; have HD : Kp (RDid w w2 rb B (rSig st size).2) := ⟨d2.ahead g1⟩; clear d2 g1 HH
  go_wp2
  go_ret; exact ⟨congrArg (fun z => Ending.returned (.int .i64 z)) HW.out, HD.out⟩
theorem rBytes_c (rb B : Nat) (st : RS) (n : Int) (w : World) (h : RAt w rb B st) :
    Calls prog 184 #[.pointer (some ⟨rb, 0, none⟩), .int .i64 n] w fun e w' => e = .returned (.string ⟨(rTake st n).1.toArray⟩) ∧ RDid w w' rb B (rTake st n).2 := by
  have HH : Kp (RAt w rb B st) := ⟨h⟩; clear h; go_enter func184, ntmps184; go_wp2_with fail; refine (rtake_c rb B st n w HH.out).mono ?_; rintro e w1 ⟨a, c, rfl, hb, d1⟩; have hcv := hb.cvt; have HD : Kp (RDid w w1 rb B (rTake st n).2) := ⟨d1⟩; obtain ⟨s, hs⟩ : ∃ s, (⟨(rTake st n).1.toArray⟩ : ByteArray) = s := ⟨_, rfl⟩; rw [hs] at hcv; have HS : Kp ((⟨(rTake st n).1.toArray⟩ : ByteArray) = s) := ⟨hs⟩; clear d1 hb HH hs; generalize (rTake st n).1.length = k at *
  go_wp2
  go_ret; exact ⟨by rw [HS.out]; rfl, HD.out⟩
theorem rLeft_c (rb B : Nat) (st : RS) (w : World) (h : RAt w rb B st) :
    CRs 194 #[.pointer (some ⟨rb, 0, none⟩)] w (.int .i64 (st.1.length : Nat)) := by
  obtain ⟨⟨a, c, h1, _⟩, _⟩ := h; have c0 : w.cell? ⟨rb, 0, none⟩ = some (.slice a st.1.length c) := h1.cellv 0 _ rfl; clear h1; go_enter func194, ntmps194
  go_wp2
  go_ret; exact ⟨rfl, rfl⟩
structure Ob where
  F : Nat → Prop
  P : World → Prop
  st : ∀ (S : Nat → Prop) (W W' : World), P W → Fr S W W' → (∀ i, F i → ¬ S i) → P W'
  lt : ∀ W, P W → ∀ i, F i → i < W.heap.size
structure Sep (lo : Nat) (W : World) (l : List Ob) : Prop where
  p : ∀ o ∈ l, o.P W
  lo : ∀ o ∈ l, ∀ i, o.F i → lo ≤ i
  ap : l.Pairwise (fun a b => ∀ i, a.F i → ¬ b.F i)
theorem Sep.sub {lo : Nat} {W : World} {l l' : List Ob} (h : Sep lo W l) (hs : l'.Sublist l) : Sep lo W l' :=
  ⟨fun o ho => h.p o (hs.subset ho), fun o ho => h.lo o (hs.subset ho), h.ap.sublist hs⟩
theorem Sep.tail {lo : Nat} {W : World} {o : Ob} {l : List Ob} (h : Sep lo W (o :: l)) : Sep lo W l := h.sub (List.sublist_cons_self _ _)
theorem Sep.perm {lo : Nat} {W : World} {l l' : List Ob} (h : Sep lo W l) (hp : l.Perm l') : Sep lo W l' :=
  ⟨fun o ho => h.p o (hp.mem_iff.2 ho), fun o ho => h.lo o (hp.mem_iff.2 ho), (hp.pairwise_iff (fun {_ _} q i hi e => q i e hi)).1 h.ap⟩
theorem Sep.fr {lo : Nat} {W W' : World} {l : List Ob} {S : Nat → Prop} (h : Sep lo W l) (f : Fr S W W') (hs : ∀ o ∈ l, ∀ i, o.F i → ¬ S i) : Sep lo W' l :=
  ⟨fun o ho => o.st S W W' (h.p o ho) f (hs o ho), h.lo, h.ap⟩
theorem Sep.grown {lo : Nat} {W W' : World} {l : List Ob} (h : Sep lo W l) (hg : W.grownBy W' none) : Sep lo W' l :=
  h.fr (S := fun _ => False) (Fr.ofNone hg) (fun _ _ _ _ e => e)
theorem Sep.lt {lo : Nat} {W : World} {l : List Ob} (h : Sep lo W l) : ∀ o ∈ l, ∀ i, o.F i → i < W.heap.size := fun o ho => o.lt W (h.p o ho)
def Ob.none : Ob := ⟨fun _ => False, fun _ => True, fun _ _ _ _ _ _ => trivial, fun _ _ _ e => e.elim⟩
theorem Sep.add {lo : Nat} {W W' : World} {l : List Ob} {n : Ob} (h : Sep lo W l) (hlo : lo ≤ W.heap.size) (hg : W.grownBy W' .none) (hn : n.P W') (hnF : ∀ i, n.F i → W.heap.size ≤ i) : Sep lo W' (n :: l) := by
  have h' := h.grown hg; refine ⟨fun x hx => ?_, fun x hx i hi => ?_, List.pairwise_cons.2 ⟨fun x hx i hi e => ?_, h.ap⟩⟩
  · rcases List.mem_cons.1 hx with rfl | hx
    · exact hn
    · exact h'.p x hx
  · rcases List.mem_cons.1 hx with rfl | hx
    · exact Nat.le_trans hlo (hnF i hi)
    · exact h'.lo x hx i hi
  · have := hnF i hi; have := h.lt x hx i e; omega
theorem Sep.nil (lo : Nat) (W : World) : Sep lo W [] := ⟨fun _ h => (by cases h), fun _ h => (by cases h), List.Pairwise.nil⟩
theorem fr_mine {S : Nat → Prop} {w w1 w2 : World} (h : w.grownBy w1 none) (f : Fr S w1 w2) (hs : ∀ i, S i → w.heap.size ≤ i) : w.grownBy w2 none :=
  ((Fr.ofNone (S := S) h).trans f).none hs
def rO (rb B : Nat) (st : RS) : Ob := ⟨fun i => i = rb ∨ i = B, fun W => RAt W rb B st, fun _ _ _ h f hs => h.fr f (hs _ (.inl rfl)) (hs _ (.inr rfl)), fun _ h i hi => by
  rcases hi with rfl | rfl
  · obtain ⟨⟨a, c, q, _⟩, _⟩ := h; exact q.lt
  · exact h.lt⟩
structure Mine (w W : World) (l : List Ob) : Prop where
  g : w.grownBy W none
  s : Sep w.heap.size W l
theorem Mine.grown {w W W' : World} {l : List Ob} (h : Mine w W l) (hg : W.grownBy W' none) : Mine w W' l := ⟨h.g.trans hg, h.s.grown hg⟩
theorem Mine.perm {w W : World} {l l' : List Ob} (h : Mine w W l) (hp : l.Perm l') : Mine w W l' := ⟨h.g, h.s.perm hp⟩
theorem Mine.sub {w W : World} {l l' : List Ob} (h : Mine w W l) (hp : l'.Sublist l) : Mine w W l' := ⟨h.g, h.s.sub hp⟩
theorem Mine.r {w W : World} {A X : List Ob} {rb B : Nat} {st : RS} (h : Mine w W (A ++ rO rb B st :: X)) : RAt W rb B st := h.s.p (rO rb B st) (by simp)
end Go.Proofs.YtldnpebnpbahjaaGreatDoor.Pk
