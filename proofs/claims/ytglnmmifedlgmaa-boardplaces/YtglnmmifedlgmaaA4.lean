/- strings.Builder's writers, over things that lie apart. -/
import Derived.Test.YtglnmmifedlgmaaA1
import Derived.Test.YtglnmmifedlgmaaShelf
namespace Go.Proofs.Ytglnmmifedlgmaa
open Go Go.RowKit

abbrev u8 (c : Int) : Value := .int .u8 c
abbrev pt (b : Nat) : Value := .pointer (some ⟨b, 0, none⟩)
theorem info59 : ∃ i, Try.prog.info? 59 = some i ∧ i.size = 2 := by
  have h : (Try.prog.info? 59).map (fun i => i.size) = some 2 := by kernel_rfl
  cases hq : Try.prog.info? 59 with
  | none => simp [hq] at h
  | some i => simp only [hq, Option.map_some, Option.some.injEq] at h; exact ⟨i, rfl, h⟩
theorem info5 : ∃ i, Try.prog.info? 5 = some i ∧ i.size = 1 ∧ i.bytes = 1 ∧ i.zero = some (.int .u8 0) := by
  have h : (Try.prog.info? 5).map (fun i => (i.size, i.bytes, i.zero)) = some (1, 1, some (.int .u8 0)) := by kernel_rfl
  cases hq : Try.prog.info? 5 with
  | none => simp [hq] at h
  | some i =>
    simp only [hq, Option.map_some, Option.some.injEq, Prod.mk.injEq] at h
    exact ⟨i, rfl, h.1, h.2.1, h.2.2⟩
theorem under54 : Try.prog.underlying 54 = some (.slice 5) := by kernel_rfl
theorem lies59 : liesAt Try.prog Try.prog.depth 59 (2 / Try.prog.cellsOf 59) 0 59 1 = true := by kernel_rfl
set_option maxHeartbeats 1000000 in
set_option maxRecDepth 100000 in
theorem ccU (b : Nat) (v : Value) (w : World) (h : Has w b [pt b, v] 59) : Calls Try.prog 41 #[pt b] w fun e w' => e = .returned (.tuple #[]) ∧ w' = w := by
  obtain ⟨j, hj, hjs⟩ := info59
  have h0 := h.cellv 0 _ rfl
  clear h
  go_enter Try.func41, Try.ntmps41
  go_wp2
  rw [Lib.run_neq_ptr_same w _ Try.underlying57 hj]
  go_wp2
  go_end0
  exact ⟨rfl, rfl⟩
set_option maxHeartbeats 1000000 in
set_option maxRecDepth 100000 in
theorem ccF (b : Nat) (v : Value) (w : World) (h : Has w b [.pointer none, v] 59) : Calls Try.prog 41 #[pt b] w fun e w' => e = .returned (.tuple #[]) ∧ w' = w.setCell ⟨b, 0, none⟩ (pt b) := by
  obtain ⟨j, hj, hjs⟩ := info59
  have h0 := h.cellv 0 _ rfl
  have hfz := h.frozen 0
  have hsh : w.shape? b = some (59, 2) := by unfold Has at h; simp [World.shape?, h]
  clear h
  go_enter Try.func41, Try.ntmps41
  go_wp2
  rw [Lib.run_to_unsafe w ⟨b, 0, none⟩ Try.underlying57 Try.underlying81 hj (by rw [hjs]; decide) hsh (Nat.zero_lt_succ 1)]
  simp only [Result.andThen]
  rw [Oper.upon_value]
  go_wp2
  rw [run_callFunc_extern Try.func44 (by kernel_rfl) (by kernel_rfl) (by kernel_rfl) (e := Extern.AbiNoEscape.same) (by kernel_rfl)]
  rw [Lib.run_noEscape]
  simp only [Result.andThen]
  rw [Oper.upon_value]
  go_wp2
  rw [Lib.run_from_unsafe w ⟨b, 0, none⟩ Try.underlying81 Try.underlying57 hj hsh lies59]
  simp only [Result.andThen]
  rw [Oper.upon_value]
  go_wp2
  go_end0
  exact ⟨rfl, rfl⟩
theorem cc (b : Nat) (p v : Value) (w0 w : World) (R : List As) (hp : p = .pointer none ∨ p = pt b) (h : Sep w0 w (boxA b [p, v] 59 :: R)) : Calls Try.prog 41 #[pt b] w fun e w' => e = .returned (.tuple #[]) ∧ Sep w0 w' (boxA b [pt b, v] 59 :: R) := by
  rcases hp with rfl | rfl
  · refine (ccF b v w (h.boxGet k0m)).mono ?_
    rintro e w' ⟨rfl, rfl⟩
    exact ⟨rfl, h.boxPut 0 (pt b)⟩
  · refine (ccU b v w (h.boxGet k0m)).mono ?_
    rintro e w' ⟨rfl, rfl⟩
    exact ⟨rfl, h⟩
/-- a byte more -/
theorem Sep.byte {w0 W : World} {l : List As} {v : Value} {xs : List Value} (c : Value) (hc : c.oneCell' = true) (h : Sep w0 W (rowV 5 1 v xs.length xs :: l)) (hn : xs.length ≤ 1000000) :
    ∃ g k W', (Builtin.append_ #[54, 54] 54 #[v, .slice (some ⟨W.heap.size, 0, none⟩) 1 1]).run Try.prog (W.alloc (.cells #[c] 5)) = .ok (.slice (some ⟨g, 0, none⟩) (xs.length + 1) k) W' ∧ Sep w0 W' (rowV 5 1 (.slice (some ⟨g, 0, none⟩) (xs.length + 1) k) (xs ++ [c]).length (xs ++ [c]) :: l) := by
  obtain ⟨i, i1, i2, i3, i4⟩ := info5
  obtain ⟨g, k, W', r1, r2⟩ := Sep.app under54 i1 i4 i2 i3 rfl (by decide) h [c] rfl (fun u hu => by rw [List.mem_singleton] at hu; subst hu; exact hc) (by omega) (by decide)
  refine ⟨g, k, W', r1, ?_⟩
  rw [List.length_append]
  exact r2
set_option maxHeartbeats 2000000 in
set_option maxRecDepth 100000 in
theorem wbyte (b : Nat) (p v : Value) (w0 w : World) (R : List As) (xs : List Value) (c : Int) (hp : p = .pointer none ∨ p = pt b) (h : Sep w0 w (boxA b [p, v] 59 :: rowV 5 1 v xs.length xs :: R)) (hn : xs.length ≤ 1000000) :
    Calls Try.prog 31 #[pt b, .int .u8 c] w fun e w' => e = .returned .nilIface ∧ ∃ v', Sep w0 w' (boxA b [pt b, v'] 59 :: rowV 5 1 v' (xs ++ [u8 c]).length (xs ++ [u8 c]) :: R) := by
  have hC := cc b p v w0 w _ hp h
  clear h hp
  go_enter Try.func31, Try.ntmps31
  go_wp2_with fail
  refine hC.mono ?_
  rintro e w1 ⟨rfl, h1⟩
  clear hC
  have c1 : w1.cell? ⟨b, 1, none⟩ = some v := (h1.boxGet k0m).cellv 1 _ rfl
  obtain ⟨g, k, W', r1, r2⟩ := Sep.byte (.int .u8 c) rfl h1.swap hn
  have d1 : W'.cell? ⟨b, 1, none⟩ = some v := (r2.boxGet k1m).cellv 1 _ rfl
  have f1 : W'.frozen? ⟨b, 1, none⟩ = false := (r2.boxGet k1m).frozen 1
  have HR := Keep.mk (r2.swap.boxPut 1 (.slice (some ⟨g, 0, none⟩) (xs.length + 1) k))
  have HA := Keep.mk r1
  clear r1 r2 h1
  go_wp2_with (at_builtin; refine wpList_append_run _ rfl (.tmp 11) (.tmp 13) 54 rfl _ _ rfl rfl HA.out ?_)
  go_ret
  exact ⟨rfl, _, HR.out⟩
set_option maxHeartbeats 2000000 in
set_option maxRecDepth 100000 in
theorem arune (v : Value) (w0 w : World) (R : List As) (xs : List Value) (r : Int) (h0 : 0 ≤ r) (h1 : r < 128) (h : Sep w0 w (rowV 5 1 v xs.length xs :: R)) (hn : xs.length ≤ 1000000) :
    Calls Try.prog 42 #[v, .int .i32 r] w fun e w' => ∃ v', e = .returned v' ∧ Sep w0 w' (rowV 5 1 v' (xs ++ [u8 r]).length (xs ++ [u8 r]) :: R) := by
  have e1 : IntKind.u32.wrap r = r := by unfold IntKind.wrap; simp [IntKind.signed, IntKind.bits]; omega
  have e2 : IntKind.u8.wrap r = r := by unfold IntKind.wrap; simp [IntKind.signed, IntKind.bits]; omega
  obtain ⟨g, k, W', r1, r2⟩ := Sep.byte (.int .u8 r) rfl h hn
  have HR := Keep.mk r2
  have HA := Keep.mk r1
  have h3 : r ≤ 127 := by omega
  clear r1 r2 h h1
  go_enter Try.func42, Try.ntmps42
  go_wp2_with (at_builtin; refine wpList_append_run _ rfl (.tmp 8) (.tmp 11) 54 rfl _ _ rfl rfl HA.out ?_)
  go_ret
  exact ⟨_, rfl, HR.out⟩
set_option maxHeartbeats 2000000 in
set_option maxRecDepth 100000 in
theorem wrune (b : Nat) (p v : Value) (w0 w : World) (R : List As) (xs : List Value) (r : Int) (h0 : 0 ≤ r) (hr : r < 128) (hp : p = .pointer none ∨ p = pt b) (h : Sep w0 w (boxA b [p, v] 59 :: rowV 5 1 v xs.length xs :: R)) (hn : xs.length ≤ 1000000) :
    Calls Try.prog 30 #[pt b, .int .i32 r] w fun e w' => (∃ u, e = .returned u) ∧ ∃ v', Sep w0 w' (boxA b [pt b, v'] 59 :: rowV 5 1 v' (xs ++ [u8 r]).length (xs ++ [u8 r]) :: R) := by
  have hC := cc b p v w0 w _ hp h
  clear h hp
  go_enter Try.func30, Try.ntmps30
  go_wp2_with fail
  refine hC.mono ?_
  rintro e w1 ⟨rfl, h1⟩
  clear hC
  have c1 : w1.cell? ⟨b, 1, none⟩ = some v := (h1.boxGet k0m).cellv 1 _ rfl
  obtain ⟨a, c, rfl⟩ := own_slice (h1.rowGet k1m)
  have hA := arune _ w0 w1 _ xs r h0 hr h1.swap hn
  clear h1
  go_wp2_with fail
  refine hA.mono ?_
  rintro e w2 ⟨v', rfl, r2⟩
  obtain ⟨a', c', rfl⟩ := own_slice (r2.rowGet k0m)
  have d1 : w2.cell? ⟨b, 1, none⟩ = some _ := (r2.boxGet k1m).cellv 1 _ rfl
  have f1 : w2.frozen? ⟨b, 1, none⟩ = false := (r2.boxGet k1m).frozen 1
  have HR := Keep.mk (r2.swap.boxPut 1 (.slice a' (xs ++ [u8 r]).length c'))
  clear r2 hA
  go_wp2_with fail
  go_ret2
  have hl : (xs ++ [u8 r]).length = xs.length + 1 := by simp
  rw [hl] at HR
  exact ⟨⟨_, rfl⟩, .slice a' (xs.length + 1) c', by rw [hl]; exact HR.out⟩
end Go.Proofs.Ytglnmmifedlgmaa
