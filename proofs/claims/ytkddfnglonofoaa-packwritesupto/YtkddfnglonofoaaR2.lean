/- the reference's Writer: digits, Number. -/
import Derived.Test.YtkddfnglonofoaaR1
namespace Go.Proofs.Ytkddfnglonofoaa
open Go Go.RowKit

theorem addS (a b : ByteArray) (h : a.size + b.size ≤ 9223372036854775807) (W : World) : (Op.stringOp .add a b).run Try.prog W = .ok (.string (a ++ b)) W := by
  simp only [Op.stringOp]
  rw [if_neg (by have : IntKind.i64.max = 9223372036854775807 := by decide
                 omega)]
  rfl
theorem sz_mk' (l : List UInt8) : (⟨l.toArray⟩ : ByteArray).size = l.length := by simp [ByteArray.size]
theorem mk_app (a b : List UInt8) : (⟨a.toArray⟩ : ByteArray) ++ ⟨b.toArray⟩ = ⟨(a ++ b).toArray⟩ := by
  apply sl_inj
  rw [sl_app, sl_mk, sl_mk, sl_mk]
/-- 'string([]byte{b})' -/
theorem cvt_one (w : World) (b : UInt8) (W : World) (hg : (w.alloc (.cells #[.int .u8 b.toNat] 5)).grownBy W none) : (convert 53 9 (.slice (some ⟨w.heap.size, 0, none⟩) 1 1)).run Try.prog W = .ok (.string ⟨#[b]⟩) W := by
  refine cvt_cells W (some ⟨w.heap.size, 0, none⟩) 1 [b] (fun e => (by cases e)) (fun ad e j x hx => ?_)
  cases e
  rw [Addr.add_mid, Nat.zero_add]
  refine cell_kept hg ((Has.newA w #[.int .u8 b.toNat] 5).cellv j _ ?_)
  match j, hx with
  | 0, hx => cases hx; rfl
  | j + 1, hx => simp at hx
set_option maxRecDepth 100000 in
set_option maxHeartbeats 4000000 in
theorem digits_c (x k : Nat) (w : World) (hx : x < 18446744073709551616) (hk : k ≤ 8) :
    Calls Try.prog 37 #[.int .u64 x, .int .i64 k] w fun e w' => e = .returned (.tuple #[.string ⟨(be k x).toArray⟩, .int .u64 (x / 256 ^ k : Nat)]) ∧ w.grownBy w' none := by
  have HX : Keep (x < 18446744073709551616) := ⟨hx⟩
  clear hx
  go_enter Try.func37, Try.ntmps37
  go_wp2_with fail
  go_loopw [0, 6, 7] (fun s0 s6 s7 w' => ∃ i : Nat, i ≤ k ∧ s0 = .int .u64 (x / 256 ^ i : Nat) ∧ s6 = .string ⟨(be i x).toArray⟩ ∧ s7 = .int .i64 i ∧ Keep (w.grownBy w' none)) (fun _ _ s7 _ => k - (intOf s7).toNat)
  case atStart => exact ⟨0, Nat.zero_le _, by simp, rfl, rfl, ⟨World.grownBy.refl _ _⟩⟩
  case round =>
    obtain ⟨i, hi, rfl, rfl, rfl, HG⟩ := hrel
    by_cases hik : i < k
    · have hik2 : (i : Int) < k := by omega
      obtain ⟨y, hy⟩ : ∃ y, x / 256 ^ i = y := ⟨_, rfl⟩
      have hyl : y < 18446744073709551616 := by rw [← hy]; exact Nat.lt_of_le_of_lt (Nat.div_le_self _ _) HX.out
      obtain ⟨b, hb⟩ : ∃ b, UInt8.ofNat y = b := ⟨_, rfl⟩
      have hb2 : (b.toNat : Int) = (y : Int) % 256 := by rw [← hb, UInt8.toNat_ofNat']; simp
      have HY : Keep (x / 256 ^ (i + 1) = y / 256) := ⟨by rw [← hy, Nat.pow_succ, Nat.div_div_eq_div_mul]⟩
      have HB : Keep (be (i + 1) x = b :: be i x) := ⟨by rw [be, hy, hb]⟩
      have hw8 : IntKind.u8.wrap ((y : Int) % 256) = (b.toNat : Int) := by
        have e3 : ∀ q : Int, IntKind.u8.wrap q = q % 256 := fun q => rfl
        rw [hb2, e3]
        omega
      have hcv := cvt_one wr b
      have HCV : Keep (∀ W : World, (wr.alloc (.cells #[.int .u8 b.toNat] 5)).grownBy W none → (convert 53 9 (.slice (some ⟨wr.heap.size, 0, none⟩) 1 1)).run Try.prog W = .ok (.string ⟨#[b]⟩) W) := ⟨hcv⟩
      have hcv0 : (convert 53 9 (.slice (some ⟨wr.heap.size, 0, none⟩) 1 1)).run Try.prog (wr.alloc (.cells #[.int .u8 b.toNat] 5)) = .ok (.string ⟨#[b]⟩) (wr.alloc (.cells #[.int .u8 b.toNat] 5)) := hcv _ (World.grownBy.refl _ _)
      have had := addS ⟨#[b]⟩ ⟨(be i x).toArray⟩ (by have h1 := sz_mk' (be i x); rw [be_len] at h1; rw [h1]; show 1 + i ≤ _; omega)
      have HS : Keep ((⟨#[b]⟩ : ByteArray) ++ ⟨(be i x).toArray⟩ = ⟨(be (i + 1) x).toArray⟩) := ⟨by rw [HB.out]; exact mk_app [b] (be i x)⟩
      have hwi : IntKind.i64.wrap ((i : Int) + 1) = ((i + 1 : Nat) : Int) := by rw [wi _ (by omega) (by omega)]; omega
      rw [hy]
      generalize (⟨(be i x).toArray⟩ : ByteArray) = sb at *
      clear hcv hb hb2 hy
      go_wp2_with fail
      refine ⟨⟨i + 1, by omega, by rw [HY.out]; simp, by rw [← HS.out], by simp, ⟨HG.out.trans (World.grownBy_alloc _ _ _)⟩⟩, ?_⟩
      simp only [intOf]; omega
    · have hik2 : ¬ ((i : Int) < k) := by omega
      obtain rfl : i = k := by omega
      go_wp2_with fail
      go_ret2
      exact ⟨rfl, HG.out⟩
end Go.Proofs.Ytkddfnglonofoaa
