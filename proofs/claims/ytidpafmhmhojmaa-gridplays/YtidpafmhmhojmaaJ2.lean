/- the reference's grid: Delete, At. -/
import Derived.Test.YtidpafmhmhojmaaJ1
namespace Go.Proofs.Ytidpafmhmhojmaa
open Go Go.RowKit

theorem rmk_yes {M : List Pl} {i : Nat} {s : Pl} {k : Int} (h : M[i]? = some s) (e : s.id = k) : rmk (M.take (i + 1)) k = rmk (M.take i) k := by
  unfold rmk
  rw [List.take_add_one, h, Option.toList, List.filter_append]
  simp [e]
theorem rmk_no {M : List Pl} {i : Nat} {s : Pl} {k : Int} (h : M[i]? = some s) (e : ¬ s.id = k) : rmk (M.take (i + 1)) k = rmk (M.take i) k ++ [s] := by
  unfold rmk
  rw [List.take_add_one, h, Option.toList, List.filter_append]
  simp [e]
theorem rmk_le (M : List Pl) (i : Nat) (k : Int) : (rmk (M.take i) k).length ≤ i := by
  unfold rmk
  exact Nat.le_trans (List.length_filter_le _ _) (by rw [List.length_take]; omega)
theorem rmk_lt {M : List Pl} (h : Srt M) (k : Int) : decide (((rmk M k).length : Int) < (M.length : Int)) = atB M k := by
  unfold atB
  cases e : look M k with
  | none => rw [rmk_none e]; simp
  | some x =>
    have := rmk_len (h.imp (fun {a b} q => by omega)) e
    simp only [Option.isSome_some]
    exact decide_eq_true (by omega)
theorem look_drop {M : List Pl} {i : Nat} {s : Pl} {k : Int} (h : M[i]? = some s) : look (M.drop i) k = if s.id = k then some s else look (M.drop (i + 1)) k := by
  rw [drop_cons h]; rfl
set_option maxRecDepth 100000 in
set_option maxHeartbeats 16000000 in
theorem rdelete_c (w0 W : World) (l : List As) (rb : Nat) (M : List Pl) (id : Int) (hM : Srt M) (hn : (M.length + 4) * 24 ≤ 140737488355328) (h : Sep w0 W (rgA rb M :: l)) :
    Calls Try.prog 20 #[pt rb, iv id] W fun e W' => e = .returned (.bool (atB M id)) ∧ Sep w0 W' (rgA rb (rmk M id) :: l) := by
  obtain ⟨a, c, h1⟩ := rg_open h
  have HLT := Keep.mk (rmk_lt hM id)
  obtain ⟨n, hnn⟩ : ∃ n, M.length = n := ⟨_, rfl⟩
  have HQ := Keep.mk hnn
  have HN : Keep ((n + 4) * 24 ≤ 140737488355328) := ⟨by rw [← hnn]; exact hn⟩
  rw [hnn] at h1
  have HS0 : Keep (Sep w0 W (rowV 75 3 (.slice none 0 0) ([] : List Pl).length (pls []) :: boxA rb [.slice a n c] 73 :: rowV 75 3 (.slice a n c) n (pls M) :: l)) := ⟨h1.nilV 75 3⟩
  obtain ⟨du, hdu, hdr⟩ := under75
  clear h h1 hnn hM hn
  go_enter Try.func20, Try.ntmps20
  go_wp2_with fail
  go_loopw [5, 6] (fun u5 u6 wr => ∃ (T : List Pl) (i : Nat), i ≤ n ∧ u6 = iv i ∧ Keep (Sep w0 wr (rowV 75 3 u5 T.length (pls T) :: boxA rb [.slice a n c] 73 :: rowV 75 3 (.slice a n c) n (pls M) :: l)) ∧ Keep (T = rmk (M.take i) id)) (fun _ u6 _ => (n - intOf u6).toNat)
  case atStart => exact ⟨[], 0, by omega, rfl, HS0, ⟨by simp [rmk]⟩⟩
  case round =>
    clear HS0
    obtain ⟨T, i, hi, rfl, HS, hE⟩ := hrel
    have c0 := (HS.out.boxGet k1m).cellv 0 _ rfl
    by_cases hlt : i < n
    · obtain ⟨s, hs⟩ : ∃ s, M[i]? = some s := ⟨_, List.getElem?_eq_getElem (by rw [HQ.out]; exact hlt)⟩
      have HP := Keep.mk hs
      obtain ⟨g, c', e1, _⟩ := own_any (HS.out.rowGet k2m) (by omega)
      injection e1 with e1 _ e3
      subst e1 e3
      have r0 : wr.cell? ⟨g, i * 3, none⟩ = some (iv s.id) := (pls_rd HS.out k2m (by omega) hs : World.rangeAt wr g (i * 3) [iv s.id, iv s.x, iv s.y]) 0 _ rfl
      have hi1 : (i : Int) < (n : Int) := by omega
      have hwi : IntKind.i64.wrap ((i : Int) + 1) = ((i + 1 : Nat) : Int) := by have := HN.out; rw [IntKind.wrap_i64]; omega
      clear hs
      by_cases heq : s.id = id
      · have HEQ : Keep (T = rmk (M.take (i + 1)) id) := ⟨by rw [rmk_yes HP.out heq]; exact hE.out⟩
        have dne : (s.id == id) = true := by simpa using heq
        clear heq hE
        go_wp2_with fail
        go_roundw
        case rel => exact ⟨T, i + 1, by omega, rfl, HS, HEQ⟩
        case measure => simp [intOf]; omega
      · have HEQ : Keep (T ++ [s] = rmk (M.take (i + 1)) id) := ⟨by rw [rmk_no HP.out heq, hE.out]⟩
        have HLB9 : Keep ((T.length + 1) * 24 ≤ 140737488355328) := ⟨len_b1 (d := false) (by rw [hE.out]; exact rmk_le _ _ _) HN.out hlt⟩
        have dne : (s.id == id) = false := by simpa using heq
        clear heq hE
        obtain ⟨g9, g9c, W9, ap9, S9⟩ := HS.out.appP s (HLB9.out)
        have AP9 := Keep.mk ap9
        have RN9 : Keep (World.rangeAt wr g (i * 3) [iv s.id, iv s.x, iv s.y]) := ⟨pls_rd HS.out k2m (by omega) HP.out⟩
        obtain ⟨n9, hn9⟩ : ∃ z, T.length + 1 = z := ⟨_, rfl⟩
        rw [hn9] at AP9 S9
        replace HS : Keep (Sep w0 W9 (rowV 75 3 (sl g9 n9 g9c) (T ++ [s]).length (pls (T ++ [s])) :: boxA rb [sl g n c] 73 :: rowV 75 3 (sl g n c) n (pls M) :: l)) := ⟨S9⟩
        clear ap9 S9 hn9
        go_wp2_with (first
          | (at_builtin; show wpList _ _ _ ({ dst := some 36, op := _, type := _, pos := _, after := _, guard := _ } :: _) _ _; refine wpList_append_run _ rfl (.tmp 27) (.tmp 35) 71 rfl _ _ rfl rfl AP9.out ?_)
          | (show wpList _ _ _ ({ dst := some 35, op := Op.buildSlice 71 _ _, type := _, pos := _, after := _, guard := _ } :: _) _ _
             refine wpList_bs_run rfl (.tmp 34) 71 rfl _ rfl (bs3_run _ _ _ _) ?_)
          | (show wpList _ _ _ ({ dst := _, op := Op.load 75 _, type := _, pos := _, after := _, guard := _ } :: _) _ _
             refine wpList_load_mid rfl 75 _ rfl _ _ rfl _ _ RN9.out hdu hdr info75 ?_)
          | fail)
        go_roundw
        case rel => exact ⟨T ++ [s], i + 1, by omega, rfl, HS, HEQ⟩
        case measure => simp [intOf]; omega
    · have HF : Keep (T = rmk M id) := ⟨by rw [hE.out, List.take_of_length_le (by rw [HQ.out]; omega)]⟩
      have x0 := (HS.out.boxGet k1m).cellv 0 _ rfl
      have y0 := (HS.out.boxGet k1m).frozen 0
      have HG : Keep (Sep w0 (wr.setCell ⟨rb, 0, none⟩ u5) (rgA rb (rmk M id) :: l)) := ⟨by
        have q := (fr1 [_] HS.out).boxPut 0 u5
        have q2 := rg_shut (M := T) (v := u5) q
        rw [HF.out] at q2
        exact (q2.swap.tail)⟩
      obtain ⟨a6, c6, e6⟩ := own_slice (HS.out.rowGet k0m)
      have HB : Keep (decide (T.length < n) = atB M id) := ⟨by rw [← HLT.out, HF.out, HQ.out]; simp⟩
      generalize T.length = n6 at e6 HB
      subst e6
      clear HS hE HLT
      go_wp2_with fail
      go_ret
      exact ⟨congrArg (fun b => Ending.returned (Value.bool b)) HB.out, HG.out⟩
set_option maxRecDepth 100000 in
set_option maxHeartbeats 16000000 in
theorem rat_c (w0 W : World) (l : List As) (rb : Nat) (M : List Pl) (k : Int) (hn : (M.length + 4) * 24 ≤ 140737488355328) (h : Sep w0 W (rgA rb M :: l)) :
    Calls Try.prog 22 #[pt rb, iv k] W fun e W' => e = .returned (.tuple #[vv (atX M k) (atY M k), .bool (atB M k)]) ∧ W.grownBy W' none := by
  obtain ⟨a, c, h1⟩ := rg_open h
  have S1 := h1.newBox #[iv 0, iv 0] 32
  obtain ⟨W1, hW1⟩ : ∃ W1, W.alloc (.cells #[iv 0, iv 0] 32) = W1 := ⟨_, rfl⟩
  obtain ⟨ab, hab⟩ : ∃ b, W.heap.size = b := ⟨_, rfl⟩
  have SL := (Sep.nil W).newBox #[iv 0, iv 0] 32
  rw [hW1, hab] at SL S1
  have HB : Keep (Sep W W1 [boxA ab [iv 0, iv 0] 32]) := ⟨SL⟩
  obtain ⟨n, hnn⟩ : ∃ n, M.length = n := ⟨_, rfl⟩
  have HQ := Keep.mk hnn
  have HN : Keep ((n + 4) * 24 ≤ 140737488355328) := ⟨by rw [← hnn]; exact hn⟩
  rw [hnn] at S1
  have HS : Keep (Sep w0 W1 (boxA ab [iv 0, iv 0] 32 :: boxA rb [.slice a n c] 73 :: rowV 75 3 (.slice a n c) n (pls M) :: l)) := ⟨S1⟩
  obtain ⟨du, hdu, hdr⟩ := under32
  clear h h1 S1 SL hnn hn
  have c0 := (HS.out.boxGet k1m).cellv 0 _ rfl
  have d0 := (HS.out.boxGet k0m).cellv 0 _ rfl
  have d1 := (HS.out.boxGet k0m).cellv 1 _ rfl
  have e0 := (HS.out.boxGet k0m).frozen 0
  have e1 := (HS.out.boxGet k0m).frozen 1
  go_enter Try.func22, Try.ntmps22
  go_wp2_with fail
  clear hW1 hab
  go_loopw [6] (fun u6 wr => ∃ (i : Nat), i ≤ n ∧ u6 = iv i ∧ wr = W1 ∧ Keep (look M k = look (M.drop i) k)) (fun u6 _ => (n - intOf u6).toNat)
  case atStart => exact ⟨0, by omega, rfl, rfl, ⟨by simp⟩⟩
  case round =>
    obtain ⟨i, hi, rfl, rfl, hE⟩ := hrel
    by_cases hlt : i < n
    · obtain ⟨s, hs⟩ : ∃ s, M[i]? = some s := ⟨_, List.getElem?_eq_getElem (by rw [HQ.out]; exact hlt)⟩
      have HP := Keep.mk hs
      obtain ⟨g, c', e1', _⟩ := own_any (HS.out.rowGet k2m) (by omega)
      injection e1' with e1' _ e3
      subst e1' e3
      have r0 : wr.cell? ⟨g, i * 3, none⟩ = some (iv s.id) := (pls_rd HS.out k2m (by omega) hs : World.rangeAt wr g (i * 3) [iv s.id, iv s.x, iv s.y]) 0 _ rfl
      have r1 : wr.cell? ⟨g, i * 3 + 1, none⟩ = some (iv s.x) := (pls_rd HS.out k2m (by omega) hs : World.rangeAt wr g (i * 3) [iv s.id, iv s.x, iv s.y]) 1 _ rfl
      have r2 : wr.cell? ⟨g, i * 3 + 1 + 1, none⟩ = some (iv s.y) := (pls_rd HS.out k2m (by omega) hs : World.rangeAt wr g (i * 3) [iv s.id, iv s.x, iv s.y]) 2 _ rfl
      have hi1 : (i : Int) < (n : Int) := by omega
      have hwi : IntKind.i64.wrap ((i : Int) + 1) = ((i + 1 : Nat) : Int) := by have := HN.out; rw [IntKind.wrap_i64]; omega
      clear hs
      have HL := hE.out
      rw [look_drop HP.out] at HL
      by_cases heq : s.id = k
      · rw [if_pos heq] at HL
        have X1 : Keep (atX M k = s.x) := ⟨by unfold atX; rw [HL]⟩
        have X2 : Keep (atY M k = s.y) := ⟨by unfold atY; rw [HL]⟩
        have X3 : Keep (atB M k = true) := ⟨by unfold atB; rw [HL]; rfl⟩
        have HF := Keep.mk ((HB.out.boxPut 0 (iv s.x)).boxPut 1 (iv s.y))
        have dne : (s.id == k) = true := by simpa using heq
        clear heq HL hE HS HB
        go_wp2_with fail
        (try simp only [Exit.inBlock, Exit.then])
        exact ret_ct rfl rfl (HF.out.boxGet k0m) hdu hdr info32 rfl ⟨by rw [X1.out, X2.out, X3.out]; rfl, HF.out.g⟩
      · rw [if_neg heq] at HL
        have HE := Keep.mk HL
        have dne : (s.id == k) = false := by simpa using heq
        clear heq HL hE
        go_wp2_with fail
        go_roundw
        case rel => exact ⟨i + 1, by omega, rfl, (by first | rfl | trivial), HE⟩
        case measure => simp [intOf]; omega
    · have HL : look M k = none := by
        rw [hE.out, List.drop_of_length_le (by rw [HQ.out]; omega)]; rfl
      have X1 : Keep (atX M k = 0) := ⟨by unfold atX; rw [HL]⟩
      have X2 : Keep (atY M k = 0) := ⟨by unfold atY; rw [HL]⟩
      have X3 : Keep (atB M k = false) := ⟨by unfold atB; rw [HL]; rfl⟩
      have HF := Keep.mk ((HB.out.boxPut 0 (iv 0)).boxPut 1 (iv 0))
      clear HL hE HS HB
      go_wp2_with fail
      (try simp only [Exit.inBlock, Exit.then])
      exact ret_ct rfl rfl (HF.out.boxGet k0m) hdu hdr info32 rfl ⟨by rw [X1.out, X2.out, X3.out]; rfl, HF.out.g⟩
end Go.Proofs.Ytidpafmhmhojmaa
