/- the reference: marked, Check, Bits; same. -/
import Derived.Test.YtollbodeafdhkaaA4
import Derived.Test.YtollbodeafdhkaaR1
namespace Go.Proofs.Ytollbodeafdhkaa
open Go Go.RowKit
/-- the reference's window, as it reads -/
structure RW (w : World) (p : Nat) (a : Option Addr) (n c : Nat) (L : List Nat) (h : Nat) : Prop where
  has : Has w p [.slice a n c, uv h] 44
  ns : Ns .u64 w a n L
  n0 : n ≤ 1000
set_option maxRecDepth 100000 in
set_option maxHeartbeats 4000000 in
theorem marked_c {w : World} {p : Nat} {a : Option Addr} {n c : Nat} {L : List Nat} {h : Nat} (r : RW w p a n c L h) (s : Nat) :
    Calls Try.prog 19 #[.pointer (some ⟨p, 0, none⟩), uv s] w fun e w' => e = .returned (.bool (decide (s ∈ L))) ∧ w' = w := by
  have HR := Keep.mk r
  have hn := r.n0
  have c0 := r.has.cellv 0 _ rfl
  clear r
  obtain ⟨D, hD⟩ : ∃ D, decide (s ∈ L) = D := ⟨_, rfl⟩
  rw [hD]
  have HD := Keep.mk hD
  clear hD
  go_enter Try.func19, Try.ntmps19
  go_wp2_with fail
  go_loopw [5] (fun x w' => ∃ i : Nat, i ≤ n ∧ x = .int .i64 (i : Nat) ∧ Keep (w' = w) ∧ Keep (∀ j y, j < i → L[j]? = some y → y ≠ s)) (fun x _ => n - (intOf x).toNat)
  case atStart => exact ⟨0, by omega, rfl, ⟨rfl⟩, ⟨fun j y hj _ => by omega⟩⟩
  case round =>
    obtain ⟨i, i1, rfl, HW, HL⟩ := hrel
    obtain rfl := HW.out
    clear HW
    by_cases hi : i < n
    · have hia : (i : Int) < (n : Int) := by omega
      obtain ⟨sb, so, x, rfl, hxi, hx, hcc⟩ := HR.out.ns.step hi
      have c1 := hcc wr (World.grownBy.refl _ _)
      have hwi : IntKind.i64.wrap ((i : Int) + 1) = ((i + 1 : Nat) : Int) := wi _ (by omega) (by omega)
      have HXI := Keep.mk hxi
      clear hcc hx hxi
      by_cases he : x = s
      · subst he
        have HDt : D = true := by rw [← HD.out]; exact decide_eq_true (List.mem_of_getElem? HXI.out)
        subst HDt
        go_wp2_with fail
        go_ret
        exact ⟨rfl, rfl⟩
      · have hb : ((x : Int) == (s : Int)) = false := by simp; omega
        go_wp2_with fail
        refine ⟨⟨i + 1, by omega, rfl, ⟨by trivial⟩, ⟨fun j y hj hy => ?_⟩⟩, ?_⟩
        · by_cases hji : j = i
          · subst hji
            rw [HXI.out] at hy
            cases hy; exact he
          · exact HL.out j y (by omega) hy
        · simp only [intOf]; omega
    · have hia : ¬ (i : Int) < (n : Int) := by omega
      have HDt : D = false := by
        rw [← HD.out]
        refine decide_eq_false fun hm => ?_
        obtain ⟨j, hj⟩ := List.getElem?_of_mem hm
        have := (List.getElem?_eq_some_iff.1 hj).1
        exact HL.out j s (by have := HR.out.ns.len; omega) hj rfl
      subst HDt
      go_wp2_with fail
      go_ret
      exact ⟨rfl, rfl⟩
set_option maxRecDepth 100000 in
set_option maxHeartbeats 4000000 in
theorem rcheck_c {w : World} {p : Nat} {a : Option Addr} {n c : Nat} {L : List Nat} {h B : Nat} (r : RW w p a n c L h) (v : Inv h B L) (hh : h < 18446744073709551616) (s : Nat) (hs : s < 18446744073709551616) :
    Calls Try.prog 14 #[.pointer (some ⟨p, 0, none⟩), uv s] w fun e w' => e = .returned (.int .i64 (chk h B s : Nat)) ∧ w' = w := by
  have c1 := r.has.cellv 1 _ rfl
  have HC := Keep.mk (v.chk_is s)
  have HK := Keep.mk (marked_c r s)
  clear v r
  generalize chk h B s = k at *
  by_cases hu : h < s
  · have hui : (h : Int) < (s : Int) := by omega
    have hw : IntKind.u64.wrap ((s : Int) - (h : Int)) = ((s - h : Nat) : Int) := by rw [wu _ (by omega) (by omega)]; omega
    replace HC : Keep (k = if 64 < s - h then 92 else 0) := ⟨by rw [HC.out, if_pos hu]⟩
    generalize s - h = d at *
    by_cases hd : 64 < d
    · have hdi : (64 : Int) < (d : Int) := by omega
      obtain rfl : k = 92 := by rw [HC.out, if_pos hd]
      go_enter Try.func14, Try.ntmps14
      go_wp2_with fail
      go_ret
      exact ⟨rfl, rfl⟩
    · have hdi : ¬ (64 : Int) < (d : Int) := by omega
      obtain rfl : k = 0 := by rw [HC.out, if_neg hd]
      go_enter Try.func14, Try.ntmps14
      go_wp2_with fail
      go_ret
      exact ⟨rfl, rfl⟩
  · have hui : ¬ (h : Int) < (s : Int) := by omega
    have hw : IntKind.u64.wrap ((h : Int) - (s : Int)) = ((h - s : Nat) : Int) := by rw [wu _ (by omega) (by omega)]; omega
    replace HC : Keep (k = if s = 0 ∨ 64 ≤ h - s then 90 else if s ∈ L then 91 else 0) := ⟨by rw [HC.out, if_neg hu]⟩
    generalize h - s = d at *
    by_cases hz : s = 0
    · have hzb : ((s : Int) == 0) = true := by simp [hz]
      obtain rfl : k = 90 := by rw [HC.out, if_pos (.inl hz)]
      clear hz
      go_enter Try.func14, Try.ntmps14
      go_wp2_with fail
      go_ret
      exact ⟨rfl, rfl⟩
    have hzb : ((s : Int) == 0) = false := by simp [hz]
    by_cases hd : 64 ≤ d
    · have hdi : (64 : Int) ≤ (d : Int) := by omega
      obtain rfl : k = 90 := by rw [HC.out, if_pos (.inr hd)]
      go_enter Try.func14, Try.ntmps14
      go_wp2_with fail
      go_ret
      exact ⟨rfl, rfl⟩
    have hdi : ¬ (64 : Int) ≤ (d : Int) := by omega
    replace HC : Keep (k = if s ∈ L then 91 else 0) := ⟨by rw [HC.out, if_neg (by omega)]⟩
    go_enter Try.func14, Try.ntmps14
    go_wp2_with fail
    refine HK.out.mono ?_
    rintro e w1 ⟨rfl, rfl⟩
    by_cases hm : s ∈ L
    · obtain rfl : k = 91 := by rw [HC.out, if_pos hm]
      rw [decide_eq_true hm]
      go_wp2_with fail
      go_ret
      exact ⟨rfl, rfl⟩
    · obtain rfl : k = 0 := by rw [HC.out, if_neg hm]
      rw [decide_eq_false hm]
      go_wp2_with fail
      go_ret
      exact ⟨rfl, rfl⟩
end Go.Proofs.Ytollbodeafdhkaa
