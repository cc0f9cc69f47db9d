import Derived.Test.YtldnpebnpbahjaaGreatDoorX18
set_option maxRecDepth 100000
set_option maxHeartbeats 8000000
namespace Go.Proofs.YtldnpebnpbahjaaGreatDoor.Pk.Vr
open Go Go.RowKit Go.Proofs.Tryz
structure VAt (w : World) (vb : Nat) (st : WS) : Prop where
  h : ∃ s : ByteArray, Has w vb [.string s, .int .i64 (if st = none then 51 else 0)] 161 ∧ ∀ l, st = some l → sl s = l
structure VDid (w w' : World) (vb : Nat) (st : WS) : Prop where
  a : VAt w' vb st
  f : Fr (fun i => i = vb) w w'
theorem VAt.kept {w w' : World} {vb : Nat} {st : WS} (h : VAt w vb st) (hg : w.grownBy w' none) : VAt w' vb st := by
  obtain ⟨s, h1, h2⟩ := h.h; exact ⟨s, h1.kept hg (by simp), h2⟩
theorem fails_c (vb : Nat) (st : WS) (bad : Bool) (w : World) (h : VAt w vb st) :
    Calls prog 171 #[.pointer (some ⟨vb, 0, none⟩), .bool bad] w fun e w' => e = .returned (.bool (st.isNone || bad)) ∧ VDid w w' vb (if bad then none else st) := by
  obtain ⟨s, h1, h2⟩ := h.h; have HH : Kp (Has w vb [.string s, .int .i64 (if st = none then 51 else 0)] 161 ∧ ∀ l, st = some l → sl s = l) := ⟨h1, h2⟩; have c0 : w.cell? ⟨vb, 0, none⟩ = some (.string s) := h1.cellv 0 _ rfl; have c1 : w.cell? ⟨vb, 1, none⟩ = some (.int .i64 (if st = none then 51 else 0)) := h1.cellv 1 _ rfl; have f1 := h1.frozen 1; clear h1 h2 h; go_enter func171, ntmps171; cases st with
  | none =>
    simp only [if_true] at c1; cases bad
    · go_wp2
      go_ret; exact ⟨rfl, ⟨s, HH.out.1, fun l e => (by cases e)⟩, Fr.refl _ _⟩
    · go_wp2
      go_ret; exact ⟨rfl, ⟨s, HH.out.1, fun l e => (by cases e)⟩, Fr.refl _ _⟩
  | some l =>
    (have hne : ¬ (some l = (none : WS)) := by simp); rw [if_neg hne] at c1; cases bad
    · go_wp2
      go_ret; exact ⟨rfl, ⟨s, HH.out.1, HH.out.2⟩, Fr.refl _ _⟩
    · go_wp2
      go_ret; exact ⟨rfl, ⟨s, HH.out.1.setCell 1 _, fun l e => (by cases e)⟩, Fr.ofSome (S := fun i => i = vb) (gr_set _ _ _ _) rfl⟩
theorem addS (a b : ByteArray) (h : a.size + b.size ≤ 9223372036854775807) (W : World) : (Op.stringOp .add a b).run prog W = .ok (.string (a ++ b)) W := by
  simp only [Op.stringOp]
  rw [if_neg (by have : IntKind.i64.max = 9223372036854775807 := by decide
                 omega)]
  rfl
theorem sz_mk' (l : List UInt8) : (⟨l.toArray⟩ : ByteArray).size = l.length := by simp [ByteArray.size]
theorem mk_app (a b : List UInt8) : (⟨a.toArray⟩ : ByteArray) ++ ⟨b.toArray⟩ = ⟨(a ++ b).toArray⟩ := by
  apply sl_inj; rw [sl_app, sl_mk, sl_mk, sl_mk]
theorem cvt_one (w : World) (b : UInt8) (W : World) (hg : (w.alloc (.cells #[.int .u8 b.toNat] 5)).grownBy W none) : (convert 60 9 (.slice (some ⟨w.heap.size, 0, none⟩) 1 1)).run prog W = .ok (.string ⟨#[b]⟩) W := by
  refine cvt_cells W (some ⟨w.heap.size, 0, none⟩) 1 [b] (fun e => (by cases e)) (fun ad e j x hx => ?_); cases e; rw [Addr.add_mid, Nat.zero_add]; refine hg.cell ((Has.newA w #[.int .u8 b.toNat] 5).cellv j _ ?_) (by simp)
  match j, hx with
  | 0, hx => cases hx; rfl
  | j + 1, hx => simp at hx
theorem digits_c (x k : Nat) (w : World) (hx : x < 18446744073709551616) (hk : k ≤ 8) :
    CRt 172 #[.int .u64 x, .int .i64 k] w (.tuple #[.string ⟨(be k x).toArray⟩, .int .u64 (x / 256 ^ k : Nat)]) := by
  have HX : Kp (x < 18446744073709551616) := ⟨hx⟩; clear hx; go_enter func172, ntmps172; go_wp2_with fail
  go_loopw [0, 6, 7] (fun s0 s6 s7 w' => ∃ i : Nat, i ≤ k ∧ s0 = .int .u64 (x / 256 ^ i : Nat) ∧ s6 = .string ⟨(be i x).toArray⟩ ∧ s7 = .int .i64 i ∧ Kp (w.grownBy w' none)) (fun _ _ s7 _ => k - (intOf s7).toNat)
  case atStart => exact ⟨0, Nat.zero_le _, by simp, rfl, rfl, ⟨World.grownBy.refl _ _⟩⟩
  case round =>
    obtain ⟨i, hi, rfl, rfl, rfl, HG⟩ := hrel; by_cases hik : i < k
    · (have hik2 : (i : Int) < k := by omega); obtain ⟨y, hy⟩ : ∃ y, x / 256 ^ i = y := ⟨_, rfl⟩; (have hyl : y < 18446744073709551616 := by rw [← hy]; exact Nat.lt_of_le_of_lt (Nat.div_le_self _ _) HX.out); obtain ⟨b, hb⟩ : ∃ b, UInt8.ofNat y = b := ⟨_, rfl⟩; (have hb2 : (b.toNat : Int) = (y : Int) % 256 := by rw [← hb, UInt8.toNat_ofNat']; simp); have HY : Kp (x / 256 ^ (i + 1) = y / 256) := ⟨by rw [← hy, Nat.pow_succ, Nat.div_div_eq_div_mul]⟩; have HB : Kp (be (i + 1) x = b :: be i x) := ⟨by rw [be, hy, hb]⟩
      have hw8 : IntKind.u8.wrap ((y : Int) % 256) = (b.toNat : Int) := by
        (have e3 : ∀ q : Int, IntKind.u8.wrap q = q % 256 := fun q => rfl); rw [hb2, e3]; omega
      have hcv := cvt_one wr b; have HCV : Kp (∀ W : World, (wr.alloc (.cells #[.int .u8 b.toNat] 5)).grownBy W none → (convert 60 9 (.slice (some ⟨wr.heap.size, 0, none⟩) 1 1)).run prog W = .ok (.string ⟨#[b]⟩) W) := ⟨hcv⟩; have hcv0 : (convert 60 9 (.slice (some ⟨wr.heap.size, 0, none⟩) 1 1)).run prog (wr.alloc (.cells #[.int .u8 b.toNat] 5)) = .ok (.string ⟨#[b]⟩) (wr.alloc (.cells #[.int .u8 b.toNat] 5)) := hcv _ (World.grownBy.refl _ _); have had := addS ⟨#[b]⟩ ⟨(be i x).toArray⟩ (by have h1 := sz_mk' (be i x); rw [be_len] at h1; rw [h1]; show 1 + i ≤ _; omega); have HS : Kp ((⟨#[b]⟩ : ByteArray) ++ ⟨(be i x).toArray⟩ = ⟨(be (i + 1) x).toArray⟩) := ⟨by rw [HB.out]; exact mk_app [b] (be i x)⟩; (have hwi : IntKind.i64.wrap ((i : Int) + 1) = ((i + 1 : Nat) : Int) := by rw [wi _ (by omega) (by omega)]; omega); rw [hy]; generalize (⟨(be i x).toArray⟩ : ByteArray) = sb at *; clear hcv hb hb2 hy; go_wp2_with fail; refine ⟨⟨i + 1, by omega, by rw [HY.out]; simp, by rw [← HS.out], by simp, ⟨HG.out.trans (gAl _ _ _)⟩⟩, ?_⟩; simp only [intOf]; omega
    · (have hik2 : ¬ ((i : Int) < k) := by omega); (obtain rfl : i = k := by omega); go_wp2_with fail; go_ret2; exact ⟨rfl, HG.out⟩
theorem VDid.trans {w w1 w2 : World} {vb : Nat} {st st2 : WS} (h : VDid w w1 vb st) (k : VDid w1 w2 vb st2) : VDid w w2 vb st2 := ⟨k.a, h.f.trans k.f⟩
theorem VDid.grown {w w1 w2 : World} {vb : Nat} {st : WS} (h : VDid w w1 vb st) (hg : w1.grownBy w2 none) : VDid w w2 vb st := ⟨h.a.kept hg, h.f.trans (Fr.ofNone hg)⟩
theorem VAt.set {w : World} {vb : Nat} {l : List UInt8} (h : VAt w vb (some l)) (s : ByteArray) : VDid w (w.setCell ⟨vb, 0, none⟩ (.string s)) vb (some (sl s)) := by
  obtain ⟨s0, h1, h2⟩ := h.h; exact ⟨⟨s, h1.setCell 0 _, fun l e => (by cases e; rfl)⟩, Fr.ofSome (S := fun i => i = vb) (gr_set _ _ _ _) rfl⟩
theorem div_zero_fits (x : Nat) (k : Nat) : x / 256 ^ k = 0 ↔ x < 256 ^ k := by
  rw [Nat.div_eq_zero_iff]; have : 256 ^ k ≠ 0 := by simp
  omega
theorem vNumber_c (vb : Nat) (st : WS) (x : Nat) (size : Int) (w : World) (h : VAt w vb st) (hx : x < 18446744073709551616) (hl : (st.getD []).length ≤ 140737488355320) :
    Calls prog 112 #[.pointer (some ⟨vb, 0, none⟩), .int .u64 x, .int .i64 size] w fun e w' => e = .returned (.tuple #[]) ∧ VDid w w' vb (wNum st x size) := by
  have HH : Kp (VAt w vb st) := ⟨h⟩; have HX : Kp (x < 18446744073709551616 ∧ (st.getD []).length ≤ 140737488355320) := ⟨hx, hl⟩; clear h hx hl; go_enter func112, ntmps112; by_cases hs : sized size
  · have h1 : ¬ size < 1 := by have := hs.1; omega
    have h2 : ¬ size > 8 := by have := hs.2; omega
    have hF := fails_c vb st false w HH.out; rw [Bool.or_false, if_neg (by simp)] at hF; have HF := Kp.mk hF; clear hF; obtain ⟨k, rfl, hk8⟩ : ∃ k : Nat, size = k ∧ k ≤ 8 := ⟨size.toNat, by omega, by omega⟩; have HS : Kp (sized (k : Int)) := ⟨hs⟩; clear hs; go_wp2_with fail; refine HF.out.mono ?_; rintro e w1 ⟨rfl, d1⟩; have HD : Kp (VDid w w1 vb st) := ⟨d1⟩; clear d1 HF; cases st with
    | none =>
      have HN : Kp (wNum none x k = none) := ⟨by unfold wNum; split <;> rfl⟩; simp only [Option.isNone_none]; go_wp2_with fail; refine bodyPost_ret (results_none rfl _ _ _) rfl ?_; exact ⟨rfl, by rw [HN.out]; exact HD.out⟩
    | some l =>
      simp only [Option.isNone_some]; go_wp2_with fail; refine (digits_c x k w1 HX.out.1 hk8).mono ?_; rintro e w2 ⟨rfl, g2⟩; have HD2 : Kp (VDid w w2 vb (some l)) := ⟨HD.out.grown g2⟩; clear HD g2; by_cases hz : x / 256 ^ k = 0
      · have hfit : fitsU x k := ⟨HS.out, by rw [Int.toNat_natCast]; exact (div_zero_fits x k).1 hz⟩; have HN : Kp (wNum (some l) x k = some (l ++ be k x)) := ⟨by unfold wNum; rw [if_pos hfit]; rfl⟩; have hF := fails_c vb (some l) false w2 HD2.out.a; rw [Bool.or_false, if_neg (by simp)] at hF; have HF := Kp.mk hF; clear hF hfit; rw [hz]; go_wp2_with fail; refine HF.out.mono ?_; rintro e w3 ⟨rfl, d3⟩; have HD3 : Kp (VDid w w3 vb (some l)) := ⟨HD2.out.trans d3⟩; clear d3 HF HD2; simp only [Option.isNone_some]; obtain ⟨s0, p1, p2⟩ := HD3.out.a.h; have c0 : w3.cell? ⟨vb, 0, none⟩ = some (.string s0) := p1.cellv 0 _ rfl; have f0 := p1.frozen 0; have hsl : sl s0 = l := p2 l rfl
        have had := addS s0 ⟨(be k x).toArray⟩ (by
          have h1 := sz_mk' (be k x); rw [be_len] at h1; have h2 : l.length ≤ 140737488355320 := HX.out.2; rw [← hsl, sl_len] at h2
          omega)
        have HE : Kp (VDid w (w3.setCell ⟨vb, 0, none⟩ (.string (s0 ++ ⟨(be k x).toArray⟩))) vb (some (l ++ be k x))) := ⟨by
          have := HD3.out.trans (HD3.out.a.set (s0 ++ ⟨(be k x).toArray⟩))
          rwa [sl_app, hsl, sl_mk] at this⟩
        clear p1 p2 hsl HD3; generalize (⟨(be k x).toArray⟩ : ByteArray) = sb at *; go_wp2_with fail
        go_end0
        exact ⟨rfl, by rw [HN.out]; exact HE.out⟩
      · (have hfit : ¬ fitsU x k := fun q => hz ((div_zero_fits x k).2 (by have := q.2; rwa [Int.toNat_natCast] at this))); have HN : Kp (wNum (some l) x k = none) := ⟨by unfold wNum; rw [if_neg hfit]⟩; have HF := Kp.mk (fails_c vb (some l) true w2 HD2.out.a); obtain ⟨y, hy⟩ : ∃ y, x / 256 ^ k = y := ⟨_, rfl⟩; rw [hy] at hz ⊢; (have hz2 : ((y : Int) != 0) = true := by simp; omega); (have hz3 : ¬ ((y : Int) = 0) := by omega); clear hfit hy; go_wp2_with fail; refine HF.out.mono ?_; rintro e w3 ⟨rfl, d3⟩; have HE : Kp (VDid w w3 vb none) := ⟨HD2.out.trans d3⟩; clear d3 HF HD2; simp only [Bool.or_true]; go_wp2_with fail; refine bodyPost_ret (results_none rfl _ _ _) rfl ?_; exact ⟨rfl, by rw [HN.out]; exact HE.out⟩
  · have HN : Kp (wNum st x size = none) := ⟨by unfold wNum; rw [if_neg (fun q => hs q.1)]⟩; have hF := fails_c vb st true w HH.out; rw [Bool.or_true] at hF; have HF := Kp.mk hF; clear hF; by_cases h1 : size < 1
    · clear hs; go_wp2_with fail; refine HF.out.mono ?_; rintro e w1 ⟨rfl, d1⟩; have HD : Kp (VDid w w1 vb none) := ⟨d1⟩; clear d1 HF; go_wp2_with fail; refine bodyPost_ret (results_none rfl _ _ _) rfl ?_; exact ⟨rfl, by rw [HN.out]; exact HD.out⟩
    · have h2 : size > 8 := by
        have : ¬ (1 ≤ size ∧ size ≤ 8) := hs; omega
      clear hs; go_wp2_with fail; refine HF.out.mono ?_; rintro e w1 ⟨rfl, d1⟩; have HD : Kp (VDid w w1 vb none) := ⟨d1⟩; clear d1 HF; go_wp2_with fail; refine bodyPost_ret (results_none rfl _ _ _) rfl ?_; exact ⟨rfl, by rw [HN.out]; exact HD.out⟩
theorem vDone_c (vb : Nat) (st : WS) (w : World) (h : VAt w vb st) :
    CRt 117 #[.pointer (some ⟨vb, 0, none⟩)] w (.tuple #[.string ⟨(st.getD []).toArray⟩, .int .i64 (werr st)]) := by
  obtain ⟨s0, p1, p2⟩ := h.h; have c0 : w.cell? ⟨vb, 0, none⟩ = some (.string s0) := p1.cellv 0 _ rfl; have c1 : w.cell? ⟨vb, 1, none⟩ = some (.int .i64 (if st = none then 51 else 0)) := p1.cellv 1 _ rfl; go_enter func117, ntmps117; cases st with
  | none =>
    simp only [if_true] at c1; clear p1 p2; go_wp2_with fail; go_quiet (fail)
    go_wp2
    go_ret2; exact ⟨rfl, gr_drewN _ _ _⟩
  | some l =>
    (have hne : ¬ (some l = (none : WS)) := by simp); rw [if_neg hne] at c1
    have hsl : Kp ((⟨((some l : WS).getD []).toArray⟩ : ByteArray) = s0) := ⟨by
      have : sl s0 = l := p2 l rfl; show (⟨l.toArray⟩ : ByteArray) = s0
      rw [← this]; exact sl_back s0⟩
    clear p1 p2; go_wp2_with fail; go_ret2; exact ⟨by rw [hsl.out]; rfl, World.grownBy.refl _ _⟩
theorem half_fits (i : Int) (k h : Nat) (hk : 1 ≤ k) (hk8 : k < 8) (hh : h = 2 ^ (8 * k - 1)) : fitsS i k ↔ (-(h : Int) ≤ i ∧ i < h) := by
  have e : (256 : Nat) ^ k = 2 * h := by
    rw [hh, ← Nat.pow_succ', show (8 * k - 1).succ = 8 * k by omega, Nat.pow_mul]
  unfold fitsS; rw [Int.toNat_natCast, e]; constructor
  · rintro ⟨_, h1, h2⟩; omega
  · rintro ⟨h1, h2⟩; exact ⟨⟨by omega, by omega⟩, by omega, by omega⟩
theorem eight_fits (i : Int) (hi : -9223372036854775808 ≤ i ∧ i < 9223372036854775808) : fitsS i 8 := by
  refine ⟨⟨by omega, by omega⟩, ?_⟩; show -((18446744073709551616 : Nat) : Int) ≤ 2 * i ∧ 2 * i < ((18446744073709551616 : Nat) : Int); omega
theorem vSigned_c (vb : Nat) (st : WS) (x : Int) (size : Int) (w : World) (h : VAt w vb st) (hx : -9223372036854775808 ≤ x ∧ x < 9223372036854775808) (hl : (st.getD []).length ≤ 140737488355320) :
    Calls prog 116 #[.pointer (some ⟨vb, 0, none⟩), .int .i64 x, .int .i64 size] w fun e w' => e = .returned (.tuple #[]) ∧ VDid w w' vb (wSig st x size) := by
  have HH : Kp (VAt w vb st) := ⟨h⟩; have HX : Kp ((-9223372036854775808 ≤ x ∧ x < 9223372036854775808) ∧ (st.getD []).length ≤ 140737488355320) := ⟨hx, hl⟩; clear h hx hl; go_enter func116, ntmps116; by_cases hs : sized size
  · have h1 : ¬ size < 1 := by have := hs.1; omega
    have h2 : ¬ size > 8 := by have := hs.2; omega
    have hF := fails_c vb st false w HH.out; rw [Bool.or_false, if_neg (by simp)] at hF; have HF := Kp.mk hF; clear hF; obtain ⟨k, rfl, hk8⟩ : ∃ k : Nat, size = k ∧ k ≤ 8 := ⟨size.toNat, by omega, by omega⟩; (have hk1 : 1 ≤ k := by omega); have HS : Kp (sized (k : Int)) := ⟨hs⟩; clear hs; go_wp2_with fail; refine HF.out.mono ?_; rintro e w1 ⟨rfl, d1⟩; have HD : Kp (VDid w w1 vb st) := ⟨d1⟩; clear d1 HF; cases st with
    | none =>
      have HN : Kp (wSig none x k = none) := ⟨by unfold wSig; split <;> rfl⟩; simp only [Option.isNone_none]; go_wp2_with fail; refine bodyPost_ret (results_none rfl _ _ _) rfl ?_; exact ⟨rfl, by rw [HN.out]; exact HD.out⟩
    | some l =>
      simp only [Option.isNone_some]; have HWU : Kp (IntKind.u64.wrap x = (u64 x : Nat)) := ⟨by rw [wu]; unfold u64; omega⟩; by_cases hk : k < 8
      · (have hkk : (k : Int) < 8 := by omega); have hw1 : IntKind.i64.wrap (8 * (k : Int)) = 8 * k := wi _ (by omega) (by omega); have hw2 : IntKind.i64.wrap (8 * (k : Int) - 1) = 8 * k - 1 := wi _ (by omega) (by omega); go_wp2_with fail
        go_loopw [6, 7] (fun s6 s7 w' => ∃ (j q : Nat), j ≤ 8 * k - 1 ∧ q ≤ 36028797018963968 ∧ s6 = .int .i64 q ∧ s7 = .int .i64 j ∧ Kp (q = 2 ^ j) ∧ w' = w1) (fun _ s7 _ => 8 * k - (intOf s7).toNat)
        case atStart => exact ⟨0, 1, by omega, by omega, rfl, rfl, ⟨rfl⟩, rfl⟩
        case round =>
          obtain ⟨j, q, hj, hq, rfl, rfl, HQ, rfl⟩ := hrel; by_cases hjk : j < 8 * k - 1
          · (have hjk2 : (j : Int) < 8 * (k : Int) - 1 := by omega); (have hwj : IntKind.i64.wrap ((j : Int) + 1) = ((j + 1 : Nat) : Int) := by rw [wi _ (by omega) (by omega)]; omega); (have hwq : IntKind.i64.wrap (2 * (q : Int)) = ((2 * q : Nat) : Int) := by rw [wi _ (by omega) (by omega)]; omega); have HQ2 : Kp (2 * q = 2 ^ (j + 1)) := ⟨by rw [HQ.out, Nat.pow_succ']⟩
            have hq2 : 2 * q ≤ 36028797018963968 := by
              rw [HQ2.out]; have h3 : 2 ^ (j + 1) ≤ 2 ^ 55 := Nat.pow_le_pow_right (by omega) (by omega); (have h4 : (2 : Nat) ^ 55 = 36028797018963968 := by decide); omega
            go_wp2_with fail; refine ⟨⟨j + 1, 2 * q, by omega, hq2, by simp, by simp, HQ2, by trivial⟩, ?_⟩; simp only [intOf]; omega
          · (have hjk2 : ¬ ((j : Int) < 8 * (k : Int) - 1) := by omega); (obtain rfl : j = 8 * k - 1 := by omega); have HFI : Kp (fitsS x k ↔ (-(q : Int) ≤ x ∧ x < q)) := ⟨half_fits x k q hk1 hk HQ.out⟩; have hwn : IntKind.i64.wrap (-(q : Int)) = -(q : Int) := wi _ (by omega) (by omega); by_cases ha : x < -(q : Int)
            · have HN : Kp (wSig (some l) x k = none) := ⟨by unfold wSig; rw [if_neg (fun p => by have := HFI.out.1 p; omega)]⟩; have HF := Kp.mk (fails_c vb (some l) true wr HD.out.a); go_wp2_with fail; refine HF.out.mono ?_; rintro e w2 ⟨rfl, d2⟩; have HE : Kp (VDid w w2 vb none) := ⟨HD.out.trans d2⟩; clear d2 HF HD; simp only [Bool.or_true]; go_wp2_with fail; refine bodyPost_ret (results_none rfl _ _ _) rfl ?_; exact ⟨rfl, by rw [HN.out]; exact HE.out⟩
            · by_cases hc : x < (q : Int)
              · (have hc2 : ¬ (x ≥ (q : Int)) := by omega); have hfit : fitsS x k := HFI.out.2 ⟨by omega, hc⟩; have hF := fails_c vb (some l) false wr HD.out.a; rw [Bool.or_false, if_neg (by simp)] at hF; have HF := Kp.mk hF; clear hF; have HN : Kp (wSig (some l) x k = some (l ++ be k (u64 x))) := ⟨by unfold wSig; rw [if_pos hfit]; rfl⟩; clear hfit; go_wp2_with fail; refine HF.out.mono ?_; rintro e w2 ⟨rfl, d2⟩; have HD2 : Kp (VDid w w2 vb (some l)) := ⟨HD.out.trans d2⟩; clear d2 HF HD; simp only [Option.isNone_some]; go_wp2_with fail
                try rw [HWU.out]
                refine (digits_c (u64 x) k w2 (u64_lt x) (by omega)).mono ?_; rintro e w3 ⟨rfl, g3⟩; have HD3 : Kp (VDid w w3 vb (some l)) := ⟨HD2.out.grown g3⟩; clear HD2 g3; obtain ⟨s0, p1, p2⟩ := HD3.out.a.h; have c0 : w3.cell? ⟨vb, 0, none⟩ = some (.string s0) := p1.cellv 0 _ rfl; have f0 := p1.frozen 0; have hsl : sl s0 = l := p2 l rfl
                have had := addS s0 ⟨(be k (u64 x)).toArray⟩ (by
                  have h1 := sz_mk' (be k (u64 x)); rw [be_len] at h1; have h2 : l.length ≤ 140737488355320 := HX.out.2; rw [← hsl, sl_len] at h2
                  omega)
                have HE : Kp (VDid w (w3.setCell ⟨vb, 0, none⟩ (.string (s0 ++ ⟨(be k (u64 x)).toArray⟩))) vb (some (l ++ be k (u64 x)))) := ⟨by
                  have := HD3.out.trans (HD3.out.a.set (s0 ++ ⟨(be k (u64 x)).toArray⟩))
                  rwa [sl_app, hsl, sl_mk] at this⟩
                clear p1 p2 hsl HD3; generalize (⟨(be k (u64 x)).toArray⟩ : ByteArray) = sb at *; go_wp2_with fail
                go_end0
                exact ⟨rfl, by rw [HN.out]; exact HE.out⟩
              · (have hc2 : x ≥ (q : Int) := by omega); have HN : Kp (wSig (some l) x k = none) := ⟨by unfold wSig; rw [if_neg (fun p => by have := HFI.out.1 p; omega)]⟩; have HF := Kp.mk (fails_c vb (some l) true wr HD.out.a); go_wp2_with fail; refine HF.out.mono ?_; rintro e w2 ⟨rfl, d2⟩; have HE : Kp (VDid w w2 vb none) := ⟨HD.out.trans d2⟩; clear d2 HF HD; simp only [Bool.or_true]; go_wp2_with fail; refine bodyPost_ret (results_none rfl _ _ _) rfl ?_; exact ⟨rfl, by rw [HN.out]; exact HE.out⟩
      · (have hkk : ¬ ((k : Int) < 8) := by omega); (obtain rfl : k = 8 := by omega); have HN : Kp (wSig (some l) x (8 : Nat) = some (l ++ be 8 (u64 x))) := ⟨by unfold wSig; rw [if_pos (show fitsS x ((8 : Nat) : Int) from eight_fits x HX.out.1)]; rfl⟩; have HD2 : Kp (VDid w w1 vb (some l)) := HD; obtain ⟨w2, hw2⟩ : ∃ w2, w1 = w2 := ⟨_, rfl⟩; rw [hw2] at HD2 ⊢; clear HD hw2; go_wp2_with fail
        try rw [HWU.out]
        refine (digits_c (u64 x) 8 w2 (u64_lt x) (by omega)).mono ?_; rintro e w3 ⟨rfl, g3⟩; have HD3 : Kp (VDid w w3 vb (some l)) := ⟨HD2.out.grown g3⟩; clear HD2 g3; obtain ⟨s0, p1, p2⟩ := HD3.out.a.h; have c0 : w3.cell? ⟨vb, 0, none⟩ = some (.string s0) := p1.cellv 0 _ rfl; have f0 := p1.frozen 0; have hsl : sl s0 = l := p2 l rfl
        have had := addS s0 ⟨(be 8 (u64 x)).toArray⟩ (by
          have h1 := sz_mk' (be 8 (u64 x)); rw [be_len] at h1; have h2 : l.length ≤ 140737488355320 := HX.out.2; rw [← hsl, sl_len] at h2
          omega)
        have HE : Kp (VDid w (w3.setCell ⟨vb, 0, none⟩ (.string (s0 ++ ⟨(be 8 (u64 x)).toArray⟩))) vb (some (l ++ be 8 (u64 x)))) := ⟨by
          have := HD3.out.trans (HD3.out.a.set (s0 ++ ⟨(be 8 (u64 x)).toArray⟩))
          rwa [sl_app, hsl, sl_mk] at this⟩
        clear p1 p2 hsl HD3; generalize (⟨(be 8 (u64 x)).toArray⟩ : ByteArray) = sb at *; go_wp2_with fail
        go_end0
        exact ⟨rfl, by rw [HN.out]; exact HE.out⟩
  · have HN : Kp (wSig st x size = none) := ⟨by unfold wSig; rw [if_neg (fun q => hs q.1)]⟩; have hF := fails_c vb st true w HH.out; rw [Bool.or_true] at hF; have HF := Kp.mk hF; clear hF; by_cases h1 : size < 1
    · clear hs; go_wp2_with fail; refine HF.out.mono ?_; rintro e w1 ⟨rfl, d1⟩; have HD : Kp (VDid w w1 vb none) := ⟨d1⟩; clear d1 HF; go_wp2_with fail; refine bodyPost_ret (results_none rfl _ _ _) rfl ?_; exact ⟨rfl, by rw [HN.out]; exact HD.out⟩
    · have h2 : size > 8 := by
        have : ¬ (1 ≤ size ∧ size ≤ 8) := hs; omega
      clear hs; go_wp2_with fail; refine HF.out.mono ?_; rintro e w1 ⟨rfl, d1⟩; have HD : Kp (VDid w w1 vb none) := ⟨d1⟩; clear d1 HF; go_wp2_with fail; refine bodyPost_ret (results_none rfl _ _ _) rfl ?_; exact ⟨rfl, by rw [HN.out]; exact HD.out⟩
theorem vText_c (vb : Nat) (st : WS) (s : ByteArray) (w : World) (h : VAt w vb st) (hl : s.size ≤ 255 → (st.getD []).length + s.size ≤ 140737488355312) :
    Calls prog 114 #[.pointer (some ⟨vb, 0, none⟩), .string s] w fun e w' => e = .returned (.tuple #[]) ∧ VDid w w' vb (wText st (sl s)) := by
  have HH : Kp (VAt w vb st) := ⟨h⟩; have HL : Kp (s.size ≤ 255 → (st.getD []).length + s.size ≤ 140737488355312) := ⟨hl⟩; clear h hl; go_enter func114, ntmps114; by_cases hs : s.size ≤ 255
  · (have hs2 : ¬ ((s.size : Int) > 255) := by omega); have hF := fails_c vb st false w HH.out; rw [Bool.or_false, if_neg (by simp)] at hF; have HF := Kp.mk hF; clear hF; go_wp2_with fail; refine HF.out.mono ?_; rintro e w1 ⟨rfl, d1⟩; have HD : Kp (VDid w w1 vb st) := ⟨d1⟩; clear d1 HF; cases st with
    | none =>
      have HN : Kp (wText none (sl s) = none) := ⟨by unfold wText; split <;> rfl⟩; simp only [Option.isNone_none]; go_wp2_with fail
      go_end0
      exact ⟨rfl, by rw [HN.out]; exact HD.out⟩
    | some l =>
      simp only [Option.isNone_some]; obtain ⟨b, hb⟩ : ∃ b, UInt8.ofNat s.size = b := ⟨_, rfl⟩
      have HN : Kp (wText (some l) (sl s) = some (l ++ [b] ++ sl s)) := ⟨by
        unfold wText; rw [if_pos (by rw [sl_len]; exact hs), sl_len, hb]
        simp⟩
      have hwb : IntKind.u8.wrap (s.size : Int) = (b.toNat : Int) := by
        (have e3 : ∀ q : Int, IntKind.u8.wrap q = q % 256 := fun q => rfl); rw [e3, ← hb, UInt8.toNat_ofNat']; simp
      obtain ⟨s0, p1, p2⟩ := HD.out.a.h; have hsl : sl s0 = l := p2 l rfl; have ga : w1.grownBy (w1.alloc (.cells #[.int .u8 b.toNat] 5)).drew none := (gAl w1 _ none).trans (gr_drew _ _); have c0 : w1.cell? ⟨vb, 0, none⟩ = some (.string s0) := p1.cellv 0 _ rfl; have c1 : (w1.alloc (.cells #[.int .u8 b.toNat] 5)).cell? ⟨vb, 0, none⟩ = some (.string s0) := (p1.alloc _).cellv 0 _ rfl; have f1 : (w1.alloc (.cells #[.int .u8 b.toNat] 5)).frozen? ⟨vb, 0, none⟩ = false := (p1.alloc _).frozen 0; have hcv : (convert 60 9 (.slice (some ⟨w1.heap.size, 0, none⟩) 1 1)).run prog (w1.alloc (.cells #[.int .u8 b.toNat] 5)).drew = .ok (.string ⟨#[b]⟩) (w1.alloc (.cells #[.int .u8 b.toNat] 5)).drew := cvt_one w1 b _ (gr_drew _ _)
      have hlen : s0.size + s.size ≤ 140737488355312 := by
        have h2 : l.length + s.size ≤ 140737488355312 := HL.out hs
        rwa [← hsl, sl_len] at h2
      have had1 := addS s0 ⟨#[b]⟩ (by show s0.size + 1 ≤ _; omega)
      have hsz1 : (s0 ++ ⟨#[b]⟩ : ByteArray).size = s0.size + 1 := by
        rw [← sl_len, sl_app, List.length_append, sl_len]; rfl
      have had2 := addS (s0 ++ ⟨#[b]⟩) s (by omega)
      have HE : Kp (VDid w ((w1.alloc (.cells #[.int .u8 b.toNat] 5)).drew.setCell ⟨vb, 0, none⟩ (.string (s0 ++ ⟨#[b]⟩ ++ s))) vb (some (l ++ [b] ++ sl s))) := ⟨by
        have d2 := HD.out.grown ga; have := d2.trans (d2.a.set (s0 ++ ⟨#[b]⟩ ++ s))
        rwa [sl_app, sl_app, hsl] at this⟩
      clear p1 p2 hsl ga hsz1 hlen hb HD HL; obtain ⟨sA, hsA⟩ : ∃ q, s0 ++ (⟨#[b]⟩ : ByteArray) = q := ⟨_, rfl⟩; rw [hsA] at had1 had2 HE; clear hsA; obtain ⟨sB, hsB⟩ : ∃ q, sA ++ s = q := ⟨_, rfl⟩; rw [hsB] at had2 HE; clear hsB; go_wp2_with fail; refine wp_region_held_drew (S := fun _ => True) (by kernel_rfl) trivial (fun hHeld => ?_); refine hq 0 rfl ?_; refine hq 1 rfl ?_; refine hq 2 rfl ?_; refine hq 3 rfl ?_; refine hq 5 rfl ?_; refine hq 6 rfl ?_; refine hq 7 rfl ?_; refine hq 11 rfl ?_; simp only [Act.put, uz]; refine wpAnyH_ready (rs := [4, 8]) (by kernel_rfl) (by simp) ?_; refine AllReadyH.cons rfl (fun K hK => ?_) (AllReadyH.cons rfl (fun K hK => ?_) AllReadyH.nil)
      · go_simp; refine hK.out _ _ trivial (fun hHeld => ?_); clear hK K; refine ha 8 (fun K hK => ?_) (ho := rfl); go_simp; refine hK.out _ _ trivial (fun hHeld => ?_); clear hK K; refine ha 9 (fun K hK => ?_) (ho := rfl); go_simp; refine hK.out _ _ trivial (fun hHeld => ?_); clear hK K; refine hq 10 rfl ?_; refine hq 12 rfl ?_; refine hq 13 rfl ?_; refine hq 14 rfl ?_; simp only [Act.put, uz]; refine ha 15 (fun K hK => ?_) (ho := rfl); go_simp; refine hK.out _ _ trivial (fun hHeld => ?_); clear hK K; refine hd_ ?_; clear hHeld; go_wp2_with fail
        go_end0
        exact ⟨rfl, by rw [HN.out]; exact HE.out⟩
      · go_simp; refine hK.out _ _ trivial (fun hHeld => ?_); clear hK K; refine wpAnyH_ready (rs := [4, 9]) (by kernel_rfl) (by simp) ?_; refine AllReadyH.cons rfl (fun K hK => ?_) (AllReadyH.cons rfl (fun K hK => ?_) AllReadyH.nil)
        · go_simp; refine hK.out _ _ trivial (fun hHeld => ?_); clear hK K; refine ha 9 (fun K hK => ?_) (ho := rfl); go_simp; refine hK.out _ _ trivial (fun hHeld => ?_); clear hK K; refine hq 10 rfl ?_; refine hq 12 rfl ?_; refine hq 13 rfl ?_; refine hq 14 rfl ?_; simp only [Act.put, uz]; refine ha 15 (fun K hK => ?_) (ho := rfl); go_simp; refine hK.out _ _ trivial (fun hHeld => ?_); clear hK K; refine hd_ ?_; clear hHeld; go_wp2_with fail
          go_end0
          exact ⟨rfl, by rw [HN.out]; exact HE.out⟩
        · go_simp; refine hK.out _ _ trivial (fun hHeld => ?_); clear hK K; refine ha 4 (fun K hK => ?_) (ho := rfl); go_simp; refine hK.out _ _ trivial (fun hHeld => ?_); clear hK K; refine hq 10 rfl ?_; refine hq 12 rfl ?_; refine hq 13 rfl ?_; refine hq 14 rfl ?_; simp only [Act.put, uz]; refine ha 15 (fun K hK => ?_) (ho := rfl); go_simp; refine hK.out _ _ trivial (fun hHeld => ?_); clear hK K; refine hd_ ?_; clear hHeld; go_wp2_with fail
          go_end0
          exact ⟨rfl, by rw [HN.out]; exact HE.out⟩
  · (have hs2 : (s.size : Int) > 255 := by omega); have HN : Kp (wText st (sl s) = none) := ⟨by unfold wText; rw [if_neg (by rw [sl_len]; exact hs)]⟩; have hF := fails_c vb st true w HH.out; rw [Bool.or_true] at hF; have HF := Kp.mk hF; clear hF; go_wp2_with fail; refine HF.out.mono ?_; rintro e w1 ⟨rfl, d1⟩; have HD : Kp (VDid w w1 vb none) := ⟨d1⟩; clear d1 HF; go_wp2_with fail
    go_end0
    exact ⟨rfl, by rw [HN.out]; exact HD.out⟩
end Go.Proofs.YtldnpebnpbahjaaGreatDoor.Pk.Vr
