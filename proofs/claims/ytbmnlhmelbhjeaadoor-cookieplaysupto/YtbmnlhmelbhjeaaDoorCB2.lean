/- the laws' few, number, alive -/
import Derived.Test.YtbmnlhmelbhjeaaDoorCB1
import Derived.Test.YtbmnlhmelbhjeaaDoorMaH1
namespace Go.Proofs.YtbmnlhmelbhjeaaDoor
open Go Go.RowKit

set_option maxRecDepth 100000 in
set_option maxHeartbeats 4000000 in
theorem few_c (a : Option Addr) (n c m : Nat) (w : World) (hc : n ≤ c) (hm : m ≤ 100) (ha : a = none → c = 0) :
    Calls Tryd.prog 9 #[.slice a n c, .int .i64 m] w fun e w' => e = .returned (.slice a (min n m) c) ∧ w.grownBy w' none := by
  go_enter Tryd.func9, Tryd.ntmps9
  by_cases h : n ≤ m
  · have e : min n m = n := by omega
    rw [e]
    go_wp2
    go_ret
    exact ⟨rfl, World.grownBy.refl _ _⟩
  · have e : min n m = m := by omega
    rw [e]
    cases a with
    | none => have := ha rfl; omega
    | some ad =>
      go_wp2
      go_ret
      exact ⟨rfl, World.grownBy.refl _ _⟩

theorem len8_step (n j : Nat) (hj : j < 8) : (Mac.len8 n).take j ++ [UInt8.ofNat (n / 2 ^ (56 - 8 * j))] = (Mac.len8 n).take (j + 1) := by
  have h := len8_get n j hj
  obtain ⟨h1, e1⟩ := List.getElem?_eq_some_iff.1 h
  rw [List.take_succ_eq_append_getElem h1, e1]
set_option maxRecDepth 100000 in
set_option maxHeartbeats 4000000 in
theorem number_c (x : Nat) (w : World) :
    Calls Tryd.prog 15 #[.int .u64 x] w fun e w' => e = .returned (.string (ba (Mac.len8 x))) ∧ w.grownBy w' none := by
  go_enter Tryd.func15, Tryd.ntmps15
  go_wp2_with fail
  go_loopw [3, 4] (fun v t w' => ∃ j : Nat, j ≤ 8 ∧ t = .int .i64 (56 - 8 * (j : Int)) ∧ Keep (w'.ownsRow w.heap.size 5 1 v j (((Mac.len8 x).take j).map bv) ∧ w.grownBy w' none)) (fun _ t _ => (intOf t + 8).toNat)
  case atStart => exact ⟨0, by omega, rfl, ⟨⟨rfl, .inl ⟨rfl, rfl⟩⟩, World.grownBy.refl _ _⟩⟩
  case round =>
    obtain ⟨j, hj, rfl, hrel⟩ := hrel
    by_cases hlj : j < 8
    · obtain ⟨kk, hkk⟩ : ∃ kk : Nat, kk + 8 * j = 56 := ⟨56 - 8 * j, by omega⟩
      have e56 : (56 : Int) - 8 * (j : Int) = (kk : Int) := by omega
      obtain ⟨v, hv⟩ : ∃ v, UInt8.ofNat (x / 2 ^ kk) = v := ⟨_, rfl⟩
      have hv2 : (x : Int) / 2 ^ kk % 256 = (v.toNat : Int) := by rw [← hv]; simp
      obtain ⟨a', c', w3, r1, r2, r3, _⟩ := app1 wr w.heap.size _ j _ v hrel.out.1 (by omega) hrel.out.2.size
      have HR : Keep (w3.ownsRow w.heap.size 5 1 (.slice a' (j + 1) c') (j + 1) (((Mac.len8 x).take (j + 1)).map bv) ∧ w.grownBy w3 none) := ⟨by
        rw [← len8_step x j hlj, show 56 - 8 * j = kk by omega, hv]; exact r2, by
        have g1 := hrel.out.2.trans (World.grownBy_alloc wr (.cells #[.int .u8 v.toNat] 5) none)
        generalize hob : Value.ownBlock _ = ob at r3
        cases ob with
        | none => exact g1.trans r3
        | some k => exact gr_new g1 r3 ((hrel.out.1.lt k hob).1)⟩
      have HAP := Keep.mk r1
      rw [e56]
      clear hrel r1 r2 r3 hv
      go_wp2_with (at_builtin; refine wpList_append_run _ rfl _ _ 67 rfl _ _ rfl rfl HAP.out ?_)
      refine ⟨⟨j + 1, by omega, by congr 1; omega, HR⟩, ?_⟩
      simp only [intOf]; omega
    · obtain rfl : j = 8 := by omega
      obtain ⟨a', c', e1, b1, n1⟩ := own_bytes hrel.out.1
      subst e1
      have hcv := cvt_back wr a' 8 c' (Mac.len8 x) b1 (fun e => by
        obtain ⟨B, o, e', _⟩ := b1.at_ (by decide)
        rw [e] at e'; cases e')
      have HG : Keep (w.grownBy wr none) := ⟨hrel.out.2⟩
      clear hrel b1 n1
      go_wp2_with fail
      go_ret
      exact ⟨rfl, HG.out⟩
end Go.Proofs.YtbmnlhmelbhjeaaDoor
