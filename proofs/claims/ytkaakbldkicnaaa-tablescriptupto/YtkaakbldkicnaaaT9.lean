/- TableScript: a new table; the first level. -/
import Derived.Test.YtkaakbldkicnaaaT8
namespace Go.Proofs.Ytkaakbldkicnaaa
open Go Go.RowKit Go.Maps

set_option maxRecDepth 100000 in
set_option maxHeartbeats 8000000 in
theorem step_new (w0 W : World) (pb t t' d d' s s' : Nat) (b : Bool) (L L' : KV) (tv wv : Value) (n c : Nat) (R : List As) (a x : Int) (key : ByteArray) (a0 : Option Addr) (ni ci : Nat)
    (h : Sep w0 W (stB b pb t t' d d' s s' L L' tv wv n R)) (hpar : Par b a) :
    Calls Try.prog 31 #[pt pb, opv 1 a key x a0 ni ci, iv 0] W (fun r W' => r = .returned (.bool true) ∧ ∃ t t' d d' s s' M M' tv wv n', n' ≤ n + c ∧ Sep w0 W' (stB b pb t t' d d' s s' M M' tv wv n' R)) := by
  have S1 := h.newBox #[iv 1, iv a, .string key, iv x, .slice a0 ni ci] 62
  obtain ⟨ob, hob⟩ : ∃ ob, W.heap.size = ob := ⟨_, rfl⟩
  obtain ⟨W1, hW1⟩ : ∃ W1, W.alloc (.cells #[iv 1, iv a, .string key, iv x, .slice a0 ni ci] 62) = W1 := ⟨_, rfl⟩
  rw [hob, hW1] at S1
  change Sep w0 W1 (boxA ob (opL 1 a key x a0 ni ci) 62 :: stB b pb t t' d d' s s' L L' tv wv n R) at S1
  obtain ⟨o0, o1, o2, o3, o4⟩ := S1.opc k0m
  have HF := Keep.mk S1.tail
  have S1p := st_push S1
  have pl := S1.plc k1m
  rcases hpar with ⟨rfl, hp⟩ | ⟨rfl, hp⟩
  · obtain ⟨pt0, pd0, _, _, _, _⟩ := pl
    simp only [bn, if_false, Bool.false_eq_true, Nat.add_zero] at pt0 pd0
    by_cases hx : 1 ≤ x ∧ x ≤ 4096
    · obtain ⟨sz, rfl⟩ : ∃ sz : Nat, x = (sz : Int) := ⟨x.toNat, by omega⟩
      have hE := begin_yes pb (bn false) sz _ S1p (by rfl) (bn_lt _) (by omega) (by omega)
      change Calls Try.prog 30 #[pt pb, iv 0, iv (sz : Nat)] W1 _ at hE
      clear h S1 S1p HF hx
      go_enter Try.func31, Try.ntmps31
      go_wp2_with fail
      refine hE.mono ?_
      rintro r w2 ⟨rfl, x1, y1, S2⟩
      have HF := Keep.mk (new_keep S2)
      clear hE S2 o0 o1 o2 o3 o4 pt0 pd0
      go_wp2_with fail
      go_ret
      exact ⟨rfl, _, _, _, _, _, _, _, _, _, _, n, by omega, HF.out⟩
    · have hE := begin_no W1 pb 0 x hx
      clear h S1 S1p hx
      go_enter Try.func31, Try.ntmps31
      go_wp2_with fail
      refine hE.mono ?_
      rintro r w2 ⟨rfl, rfl⟩
      clear hE o0 o1 o2 o3 o4 pt0 pd0
      go_wp2_with fail
      go_ret
      exact ⟨rfl, _, _, _, _, _, _, _, _, _, _, n, by omega, HF.out⟩
  · obtain ⟨pt0, pd0, _, _, _, _⟩ := pl
    simp only [bn, if_true] at pt0 pd0
    by_cases hx : 1 ≤ x ∧ x ≤ 4096
    · obtain ⟨sz, rfl⟩ : ∃ sz : Nat, x = (sz : Int) := ⟨x.toNat, by omega⟩
      have hE := begin_yes pb (bn true) sz _ S1p (by rfl) (bn_lt _) (by omega) (by omega)
      change Calls Try.prog 30 #[pt pb, iv 1, iv (sz : Nat)] W1 _ at hE
      clear h S1 S1p HF hx
      go_enter Try.func31, Try.ntmps31
      go_wp2_with fail
      refine hE.mono ?_
      rintro r w2 ⟨rfl, x1, y1, S2⟩
      have HF := Keep.mk (new_keep S2)
      clear hE S2 o0 o1 o2 o3 o4 pt0 pd0
      go_wp2_with fail
      go_ret
      exact ⟨rfl, _, _, _, _, _, _, _, _, _, _, n, by omega, HF.out⟩
    · have hE := begin_no W1 pb 1 x hx
      clear h S1 S1p hx
      go_enter Try.func31, Try.ntmps31
      go_wp2_with fail
      refine hE.mono ?_
      rintro r w2 ⟨rfl, rfl⟩
      clear hE o0 o1 o2 o3 o4 pt0 pd0
      go_wp2_with fail
      go_ret
      exact ⟨rfl, _, _, _, _, _, _, _, _, _, _, n, by omega, HF.out⟩
theorem step_top (w0 W : World) (pb t t' d d' s s' : Nat) (L L' : KV) (tv wv : Value) (n c : Nat) (vs : List Value) (hv : OpV w0 4 vs c) (hn : n + c ≤ 4194304) (h : Sep w0 W (stB false pb t t' d d' s s' L L' tv wv n [])) :
    Calls Try.prog 31 #[pt pb, .agg vs.toArray, iv 0] W fun r W' => r = .returned (.bool true) ∧ TopP w0 pb n c W' := by
  obtain ⟨k, a, key, x, a0, ni, ci, cs, rfl, hks, hcl, hni, hcc, hop⟩ := hv
  by_cases hk : k = 1
  · subst hk
    by_cases hp : a.tmod 2 = 0
    · exact (step_new w0 W pb t t' d d' s s' false L L' tv wv n c [] a x key a0 ni ci h (.inl ⟨rfl, hp⟩)).mono fun _ _ q => q
    · refine (step_new w0 W pb t' t d' d s' s true L' L tv wv n c [] a x key a0 ni ci h.side (.inr ⟨rfl, hp⟩)).mono ?_
      rintro r W' ⟨rfl, t1, t2, d1, d2, s1, s2, M, M', tv', wv', n', hn', S⟩
      exact ⟨rfl, t2, t1, d2, d1, s2, s1, M', M, tv', wv', n', hn', S.side⟩
  · refine (step_any w0 W 3 pb t t' d d' s s' false L L' tv wv n c [] k a x 0 key a0 ni ci cs h hks (by omega) (.inl hk) (fun _ => stepC3 w0) hcl hni hcc hn hop).mono ?_
    rintro r W' ⟨rfl, M, M', tv', wv', n', hn', S⟩
    exact ⟨rfl, t, t', d, d', s, s', M, M', tv', wv', n', hn', S⟩
theorem begin_top {w0 W : World} (pb t t' d d' s s' : Nat) (L L' : KV) (tv wv : Value) (n : Nat) (sz : Int) (h : Sep w0 W (stB false pb t t' d d' s s' L L' tv wv n [])) :
    Calls Try.prog 30 #[pt pb, iv 0, iv sz] W fun r W' => r = .returned (.bool true) ∧ TopP w0 pb n 0 W' := by
  by_cases hx : 1 ≤ sz ∧ sz ≤ 4096
  · obtain ⟨z, rfl⟩ : ∃ z : Nat, sz = (z : Int) := ⟨sz.toNat, by omega⟩
    have hE := begin_yes pb 0 z _ h (by rfl) (by omega) (by omega) (by omega)
    change Calls Try.prog 30 #[pt pb, iv 0, iv (z : Nat)] W _ at hE
    refine hE.mono ?_
    rintro r w2 ⟨rfl, x1, y1, S2⟩
    refine ⟨rfl, x1, t', y1, d', z, s', [], L', tv, wv, n, by omega, ?_⟩
    exact Sep.dropM [_, _, _] [tabA t s L, refA d s L] S2
  · refine (begin_no W pb 0 sz hx).mono ?_
    rintro r w2 ⟨rfl, rfl⟩
    exact ⟨rfl, t, t', d, d', s, s', L, L', tv, wv, n, by omega, h⟩
end Go.Proofs.Ytkaakbldkicnaaa
