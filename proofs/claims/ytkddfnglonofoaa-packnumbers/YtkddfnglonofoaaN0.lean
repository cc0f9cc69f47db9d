/- PackNumbers: powers; a number's bytes by its powers. -/
import Derived.Test.YtkddfnglonofoaaC1
namespace Go.Proofs.Ytkddfnglonofoaa
open Go Go.RowKit

theorem power_c (n : Nat) (hn : n ≤ 7) (w : World) :
    Calls Try.prog 23 #[.int .i64 n] w fun e w' => e = .returned (.int .u64 (256 ^ n : Nat)) ∧ w' = w := by
  go_enter Try.func23, Try.ntmps23
  go_wp2
  go_loopw [3, 4] (fun s3 s4 w' => ∃ i : Nat, i ≤ n ∧ s3 = .int .u64 (256 ^ i : Nat) ∧ s4 = .int .i64 i ∧ w' = w) (fun _ s4 _ => n - (intOf s4).toNat)
  case atStart => exact ⟨0, by omega, rfl, rfl, rfl⟩
  case round =>
    obtain ⟨i, hi, rfl, rfl, rfl⟩ := hrel
    by_cases hin : i < n
    · have hin2 : (i : Int) < n := by omega
      have hle : 256 ^ i ≤ 256 ^ 6 := Nat.pow_le_pow_right (by omega) (by omega)
      have e6 : (256 : Nat) ^ 6 = 281474976710656 := by decide
      have hpq : 256 ^ (i + 1) = 256 ^ i * 256 := Nat.pow_succ _ _
      obtain ⟨p, hp⟩ : ∃ p, 256 ^ i = p := ⟨_, rfl⟩
      obtain ⟨q, hq⟩ : ∃ q, 256 ^ (i + 1) = q := ⟨_, rfl⟩
      have HQ : Keep (256 ^ (i + 1) = q) := ⟨hq⟩
      rw [hp, hq] at hpq
      rw [hp] at hle ⊢
      have hm : IntKind.u64.wrap ((p : Int) * 256) = (q : Int) := by rw [wu]; omega
      have hwi : IntKind.i64.wrap ((i : Int) + 1) = ((i + 1 : Nat) : Int) := by rw [wi _ (by omega) (by omega)]; omega
      clear hp hq hpq hle e6
      go_wp2
      refine ⟨⟨i + 1, by omega, by rw [HQ.out], by simp, by trivial⟩, ?_⟩
      simp only [intOf]; omega
    · have hin2 : ¬ (i : Int) < n := by omega
      obtain rfl : i = n := by omega
      obtain ⟨p, hp⟩ : ∃ p, 256 ^ i = p := ⟨_, rfl⟩
      rw [hp]
      go_wp2
      go_ret
      exact ⟨rfl, rfl⟩
theorem sl_at (s : ByteArray) (i : Nat) (h : i < s.size) : (sl s)[i]? = some s[i] := by
  unfold sl
  rw [Array.getElem?_toList]
  exact Array.getElem?_eq_getElem h
theorem idx9 (s : ByteArray) (i : Nat) (y : UInt8) (h : i < s.size) (hy : (sl s)[i]? = some y) (W : World) : (Instr.index 9 (.string s) (.int .i64 (i : Int))).run Try.prog W = .ok (.int .u8 y.toNat) W := by
  rw [run_index_string W 9 s .i64 i (by kernel_rfl), dif_pos ⟨by omega, by omega⟩]
  rw [sl_at s i h] at hy
  simp only [Int.toNat_natCast, Option.some.inj hy]
/-- what Number lays -/
structure Laid (S : ByteArray) (u n : Nat) : Prop where
  at_ : ∀ k, k < S.size → k < n ∧ (sl S)[k]? = some (UInt8.ofNat (u / 256 ^ (n - 1 - k)))
theorem laid_be (u n : Nat) : Laid (bs (be n u)) u n := ⟨fun k hk => by
  have e : (bs (be n u)).size = n := by
    rw [← sl_len, sl_mk, be_len]
  rw [e] at hk
  refine ⟨hk, ?_⟩
  rw [sl_mk]
  have := be_at n u (n - 1 - k) (by omega)
  rwa [show n - 1 - (n - 1 - k) = k by omega] at this⟩
theorem laid_nil (u n : Nat) : Laid (bs []) u n := ⟨fun k hk => by
  have e : (bs []).size = 0 := rfl
  omega⟩
abbrev uw (i : Int) : Nat := u64 i
theorem uw_lt (i : Int) : uw i < 18446744073709551616 := u64_lt i
theorem uw_wrap (i : Int) : IntKind.u64.wrap i = ((uw i : Nat) : Int) := by rw [wu]; unfold uw u64; omega
theorem wsig_fit (i size : Int) (h : fitsS i size) : wSig (some []) i size = some (be size.toNat (uw i)) := by unfold wSig; rw [if_pos h]; simp
end Go.Proofs.Ytkddfnglonofoaa
