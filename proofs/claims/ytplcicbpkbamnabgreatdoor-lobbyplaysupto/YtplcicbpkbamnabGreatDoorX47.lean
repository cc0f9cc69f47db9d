import Derived.Test.YtplcicbpkbamnabGreatDoorX46
import Derived.Test.YtplcicbpkbamnabGreatDoorX29
import Derived.Test.YtplcicbpkbamnabGreatDoorX30
/- LobbyPlays: the walk -/
namespace Go.Proofs.YtplcicbpkbamnabGreatDoor.Lo
open Go Go.RowKit Go.Maps

set_option maxRecDepth 100000 in
theorem bs31' (a0 a1 a2 a3 a4 a5 a6 a7 a8 a9 a10 a11 a12 b0 b1 b2 b3 b4 b5 b6 b7 b8 b9 b10 b11 b12 : Value) (w : World) : (Instr.buildSlice 31 2 #[(0, .agg #[a0, a1, a2, a3, a4, a5, a6, a7, a8, a9, a10, a11, a12]), (1, .agg #[b0, b1, b2, b3, b4, b5, b6, b7, b8, b9, b10, b11, b12])]).run Tryz.prog w = .ok (.slice (some ⟨w.heap.size, 0, none⟩) 2 2) (w.alloc (.cells #[a0, a1, a2, a3, a4, a5, a6, a7, a8, a9, a10, a11, a12, b0, b1, b2, b3, b4, b5, b6, b7, b8, b9, b10, b11, b12] 24)) := by kernel_rfl
set_option maxRecDepth 100000 in
theorem bs31 (w : World) : ∀ (a b : List Value), a.length = 13 → b.length = 13 → (Instr.buildSlice 31 2 #[(0, .agg a.toArray), (1, .agg b.toArray)]).run Tryz.prog w = .ok (.slice (some ⟨w.heap.size, 0, none⟩) 2 2) (w.alloc (.cells (a ++ b).toArray 24))
  | [a0, a1, a2, a3, a4, a5, a6, a7, a8, a9, a10, a11, a12], [b0, b1, b2, b3, b4, b5, b6, b7, b8, b9, b10, b11, b12], _, _ => bs31' a0 a1 a2 a3 a4 a5 a6 a7 a8 a9 a10 a11 a12 b0 b1 b2 b3 b4 b5 b6 b7 b8 b9 b10 b11 b12 w
theorem wpList_bs2_run {P : Program} {w : World} {ops : Array Oper} {rest : List Oper} {o : Oper} {a : Act} {Q : Exit → Act → World → Prop} (hgd : o.guard = none) (x y : Operand) (t : TypeId)
    (ho : o.op = .buildSlice t 2 #[(0, x), (1, y)]) (u v : Value) (hx : a.eval x = u) (hy : a.eval y = v) {v' : Value} {w' : World}
    (hr : (Instr.buildSlice t 2 #[(0, u), (1, v)]).run P w = .ok v' w') (h : wpList P ops Q rest (a.put o.dst v') w') : wpList P ops Q (o :: rest) a w :=
  wpList_plain hgd fun _ hK => by
    unfold Oper.wp execOp
    simp only [ho, Sem.run_bind, Sem.run_pure, Result.andThen_ok, List.map_toArray, List.map_cons, List.map_nil, hx, hy, hr]
    exact hK _ _ h
theorem perm5 {w0 W : World} {a b c d e : As} {l : List As} (h : Sep w0 W (a :: b :: c :: d :: e :: l)) : Sep w0 W (b :: a :: e :: d :: c :: l) := by
  refine h.perm ?_
  refine (List.Perm.swap b a _).trans (List.Perm.cons _ (List.Perm.cons _ ?_))
  exact (List.Perm.append_right l (List.perm_append_comm (l₁ := [c, d]) (l₂ := [e]))).trans (List.Perm.cons _ (List.Perm.swap ..))
theorem Sep.take3 {w0 W : World} {a b c : As} {l : List As} (h : Sep w0 W (a :: b :: c :: l)) : Sep w0 W (a :: b :: c :: []) := by
  induction l with
  | nil => exact h
  | cons d l ih => exact ih (Sep.tail (h.perm (List.perm_middle (l₁ := [a, b, c]))))
set_option maxRecDepth 100000 in
set_option maxHeartbeats 64000000 in
theorem lplays_c (w : World) (c1 c2 : Cf) (v1 v2 sv : Value) (P1 P2 : List Pr) (L : List Opr) (hv1 : InR w v1 P1) (hz1 : v1 = .slice none 0 0 ∨ ∃ a n c, v1 = .slice (some a) n c) (hs1 : ∀ x ∈ P1, x.1.size ≤ 1048576) (hv2 : InR w v2 P2) (hz2 : v2 = .slice none 0 0 ∨ ∃ a n c, v2 = .slice (some a) n c) (hs2 : ∀ x ∈ P2, x.1.size ≤ 1048576) (hsr : SrO w sv L) (hos : ∀ o ∈ L, OpS o) (wc : Wc w) :
    Calls Tryz.prog 3 #[.agg (cfv c1 v1), .agg (cfv c2 v2), sv] w fun e w' => e = .returned (.bool true) ∧ w.grownBy w' none := by
  obtain ⟨du, hdu, hdr⟩ := under24q
  obtain ⟨sa, sc, hsv, hsg⟩ := hsr.o
  obtain ⟨n, hnn⟩ : ∃ n, L.length = n := ⟨_, rfl⟩
  rw [hnn] at hsv
  subst hsv
  have S1 := (Sep.nil w).newBox (cfv c1 v1) 24
  obtain ⟨W1, hW1⟩ : ∃ W1, w.alloc (.cells (cfv c1 v1) 24) = W1 := ⟨_, rfl⟩
  obtain ⟨b3, hb3⟩ : ∃ b3, w.heap.size = b3 := ⟨_, rfl⟩
  rw [hW1, hb3] at S1
  have S2 := S1.newBox (cfv c2 v2) 24
  obtain ⟨W2, hW2⟩ : ∃ W2, W1.alloc (.cells (cfv c2 v2) 24) = W2 := ⟨_, rfl⟩
  obtain ⟨b4, hb4⟩ : ∃ b4, W1.heap.size = b4 := ⟨_, rfl⟩
  rw [hW2, hb4] at S2
  have hAl := alive_c W2 (wc.n.kept S2.g) (wc.k.kept S2.g (by simp))
  have HS2 := Keep.mk S2
  obtain ⟨k1, hk1⟩ : ∃ k1, (cfv c1 v1).toList = k1 := ⟨_, rfl⟩
  obtain ⟨k2, hk2⟩ : ∃ k2, (cfv c2 v2).toList = k2 := ⟨_, rfl⟩
  have HN : Keep (∀ W l, Sep w W l → Calls Tryz.prog 5 #[.agg k1.toArray] W (NwR W (newL c1 P1)) ∧ Calls Tryz.prog 6 #[.agg k1.toArray] W (RnR W c1 P1 (newL c1 P1)) ∧ Calls Tryz.prog 5 #[.agg k2.toArray] W (NwR W (newL c2 P2)) ∧ Calls Tryz.prog 6 #[.agg k2.toArray] W (RnR W c2 P2 (newL c2 P2))) := ⟨fun W l h => by
    rw [← hk1, ← hk2]
    exact ⟨new_c W c1 v1 P1 (hv1.kept h.g) (wc.n.kept h.g), rnew_c W c1 v1 P1 (hv1.kept h.g) hz1 hs1, new_c W c2 v2 P2 (hv2.kept h.g) (wc.n.kept h.g), rnew_c W c2 v2 P2 (hv2.kept h.g) hz2 hs2⟩⟩
  have HK13 : Keep (k1.length = 13 ∧ k2.length = 13) := ⟨by rw [← hk1]; rfl, by rw [← hk2]; rfl⟩
  have e1 : cfv c1 v1 = k1.toArray := by rw [← hk1]
  have e2 : cfv c2 v2 = k2.toArray := by rw [← hk2]
  rw [e1] at hW1 HS2 ⊢
  rw [e2] at hW2 HS2 ⊢
  have HIN := Keep.mk (And.intro hsr (And.intro hos (And.intro wc hnn)))
  clear S1 S2 hv1 hz1 hs1 hv2 hz2 hs2 hsr hos wc hk1 hk2 e1 e2 hsg hnn
  go_enter Tryz.func3, Tryz.ntmps3
  go_wp2_with fail
  refine hAl.mono ?_
  rintro e w3 ⟨rfl, g3⟩
  have S3 := HS2.out.grown g3
  have S4 := S3.newBox #[np, np] 28
  obtain ⟨W4, hW4⟩ : ∃ W4, w3.alloc (.cells #[np, np] 28) = W4 := ⟨_, rfl⟩
  obtain ⟨q7, hq7⟩ : ∃ q7, w3.heap.size = q7 := ⟨_, rfl⟩
  rw [hW4, hq7] at S4
  have S5 := S4.newBox #[np, np] 30
  obtain ⟨W5, hW5⟩ : ∃ W5, W4.alloc (.cells #[np, np] 30) = W5 := ⟨_, rfl⟩
  obtain ⟨q8, hq8⟩ : ∃ q8, W4.heap.size = q8 := ⟨_, rfl⟩
  rw [hW5, hq8] at S5
  have R3 : Keep (W5.rangeAt b3 0 k1) := ⟨by have := (S5.boxGet k3m).range; exact this⟩
  have R4 : Keep (W5.rangeAt b4 0 k2) := ⟨by have := (S5.boxGet k2m).range; exact this⟩
  have S6 := S5.newBox (k1 ++ k2).toArray 24
  obtain ⟨W6, hW6⟩ : ∃ W6, W5.alloc (.cells (k1 ++ k2).toArray 24) = W6 := ⟨_, rfl⟩
  obtain ⟨rb, hrb⟩ : ∃ rb, W5.heap.size = rb := ⟨_, rfl⟩
  have HBS := Keep.mk (bs31 W5 k1 k2 HK13.out.1 HK13.out.2)
  rw [hW6, hrb] at S6 HBS
  obtain ⟨cc, hcc⟩ : ∃ cc, k1 ++ k2 = cc := ⟨_, rfl⟩
  have HCC := Keep.mk hcc
  change Sep w W6 (boxA rb (k1 ++ k2) 24 :: boxA q8 [np, np] 30 :: boxA q7 [np, np] 28 :: _) at S6
  have HS6 : Keep (Sep w W6 (boxA q7 [slL (none : Option Sl), slL (none : Option Sl)] 28 :: boxA q8 [slK (none : Option Sl), slK (none : Option Sl)] 30 :: boxA rb cc 24 :: (slA (none : Option Sl) ++ slA (none : Option Sl)))) := ⟨by
    rw [← hcc]
    have a1 := S6.third.perm (List.Perm.cons _ (List.Perm.swap ..))
    exact Sep.take3 a1⟩
  clear hAl g3 S3 S4 S5 S6 HS2 hcc
  go_wp2_with (first
    | (show wpList _ _ _ ({ dst := _, op := Op.load 24 (.tmp 3), type := _, pos := _, after := _, guard := _ } :: _) _ _
       refine wpList_load_mid rfl 24 _ rfl _ _ rfl _ _ R3.out hdu hdr (by rw [HK13.out.1]; exact info24q) ?_)
    | (show wpList _ _ _ ({ dst := _, op := Op.load 24 (.tmp 4), type := _, pos := _, after := _, guard := _ } :: _) _ _
       refine wpList_load_mid rfl 24 _ rfl _ _ rfl _ _ R4.out hdu hdr (by rw [HK13.out.2]; exact info24q) ?_)
    | (show wpList _ _ _ ({ dst := _, op := Op.buildSlice 31 _ _, type := _, pos := _, after := _, guard := _ } :: _) _ _
       refine wpList_bs2_run rfl (.tmp 21) (.tmp 22) 31 rfl _ _ rfl rfl HBS.out ?_))
  go_loopw [10] (fun v wr => ∃ (i : Nat) (s0 s1 : Option Sl), i ≤ 2 ∧ v = iv i ∧ Keep ((i = 0 → s0 = none) ∧ (i ≤ 1 → s1 = none) ∧ SlOk 0 s0 ∧ SlOk 0 s1) ∧ Keep (Sep w wr (boxA q7 [slL s0, slL s1] 28 :: boxA q8 [slK s0, slK s1] 30 :: boxA rb cc 24 :: (slA s0 ++ slA s1)))) (fun v _ => (2 - intOf v).toNat)
  case atStart => exact ⟨0, none, none, by omega, rfl, ⟨fun _ => rfl, fun _ => rfl, trivial, trivial⟩, HS6⟩
  case round =>
    clear HS6
    obtain ⟨i, s0, s1, hi, rfl, hI, hS⟩ := hrel
    by_cases hlt : i < 2
    · obtain ⟨ki, ci, Pi, HKI⟩ : ∃ ki ci Pi, Keep ((∀ W l, Sep w W l → Calls Tryz.prog 5 #[.agg ki.toArray] W (NwR W (newL ci Pi)) ∧ Calls Tryz.prog 6 #[.agg ki.toArray] W (RnR W ci Pi (newL ci Pi))) ∧ ki.length = 13 ∧ ∀ W l, Sep w W l → boxA rb cc 24 ∈ l → W.rangeAt rb (i * 13) ki) := by
        by_cases h0 : i = 0
        · exact ⟨k1, c1, P1, ⟨fun W l h => ⟨(HN.out W l h).1, (HN.out W l h).2.1⟩, HK13.out.1, fun W l h hm => by
            rw [h0, ← HCC.out] at *
            exact (h.boxGet hm).rangeMid 0 [] k1 k2 rfl rfl⟩⟩
        · obtain rfl : i = 1 := by omega
          exact ⟨k2, c2, P2, ⟨fun W l h => ⟨(HN.out W l h).2.2.1, (HN.out W l h).2.2.2⟩, HK13.out.2, fun W l h hm => by
            rw [← HCC.out] at hm
            exact (h.boxGet hm).rangeMid 13 k1 k2 [] (by rw [List.append_nil]) HK13.out.1⟩⟩
      have hnp : [slL s0, slL s1][i]? = some np ∧ [slK s0, slK s1][i]? = some np := by
        by_cases h0 : i = 0
        · rw [h0, hI.out.1 h0]; exact ⟨rfl, rfl⟩
        · obtain rfl : i = 1 := by omega
          rw [hI.out.2.1 (by omega)]; exact ⟨rfl, rfl⟩
      have hsame : [slL s0, slL s1].set i np = [slL s0, slL s1] ∧ [slK s0, slK s1].set i np = [slK s0, slK s1] := by
        by_cases h0 : i = 0
        · rw [h0, hI.out.1 h0]; exact ⟨rfl, rfl⟩
        · obtain rfl : i = 1 := by omega
          rw [hI.out.2.1 (by omega)]; exact ⟨rfl, rfl⟩
      have HNP := Keep.mk (And.intro hnp hsame)
      have hN5 := (HKI.out.1 wr _ hS.out).1
      have RNG := Keep.mk (HKI.out.2.2 wr _ hS.out k2m)
      have hi0 : (0 : Int) ≤ (i : Int) := by omega
      have hi1 : (i : Int) < 2 := by omega
      have hti : ((i : Nat) : Int).toNat = i := by omega
      have hwi : IntKind.i64.wrap ((i : Int) + 1) = ((i + 1 : Nat) : Int) := by rw [wi _ (by omega) (by omega)]; omega
      clear hnp hsame
      cases hX : newL ci Pi with
      | none =>
        rw [hX] at hN5
        go_wp2_with (first
          | (show wpList _ _ _ ({ dst := _, op := Op.load 24 _, type := _, pos := _, after := _, guard := _ } :: _) _ _
             refine wpList_load_mid rfl 24 _ rfl _ _ rfl _ _ RNG.out hdu hdr (by rw [HKI.out.2.1]; exact info24q) ?_))
        refine hN5.mono ?_
        rintro e w5 ⟨rfl, g5⟩
        have S5 := hS.out.grown g5
        have hN6 := (HKI.out.1 w5 _ S5).2
        rw [hX] at hN6
        replace RNG := Keep.mk (HKI.out.2.2 w5 _ S5 k2m)
        have HS5 := Keep.mk S5
        clear hN5 g5 S5 hS
        go_wp2_with (first
          | (show wpList _ _ _ ({ dst := _, op := Op.load 24 _, type := _, pos := _, after := _, guard := _ } :: _) _ _
             refine wpList_load_mid rfl 24 _ rfl _ _ rfl _ _ RNG.out hdu hdr (by rw [HKI.out.2.1]; exact info24q) ?_))
        refine hN6.mono ?_
        rintro e w6 ⟨g6, hq⟩
        obtain rfl : e = .returned (.tuple #[np, iv 230]) := by
          rcases hq with ⟨_, he⟩ | ⟨⟨X, hh⟩, _⟩
          · exact he
          · cases hh
        have S6 := HS5.out.grown g6
        have t7 : w6.cell? ⟨q7, i, none⟩ = some np := (S6.boxGet k0m).cellv _ _ HNP.out.1.1
        have z7 : w6.frozen? ⟨q7, i, none⟩ = false := (S6.boxGet k0m).frozen _
        have S7 := S6.boxPut i np
        rw [HNP.out.2.1] at S7
        obtain ⟨w7, hw7⟩ : ∃ w7, w6.setCell ⟨q7, i, none⟩ np = w7 := ⟨_, rfl⟩
        rw [hw7] at S7
        have t8 : w7.cell? ⟨q8, i, none⟩ = some np := (S7.boxGet k1m).cellv _ _ HNP.out.1.2
        have z8 : w7.frozen? ⟨q8, i, none⟩ = false := (S7.boxGet k1m).frozen _
        have S8 := (S7.swap.boxPut i np).swap
        rw [HNP.out.2.2] at S8
        have HS8 := Keep.mk S8
        have HI2 : Keep ((i + 1 = 0 → s0 = none) ∧ (i + 1 ≤ 1 → s1 = none) ∧ SlOk 0 s0 ∧ SlOk 0 s1) := ⟨fun h => by omega, fun h => hI.out.2.1 (by omega), hI.out.2.2⟩
        clear hN6 g6 hq S6 S7 S8 HS5 hX
        go_wp2_with fail
        go_roundw
        case rel => exact ⟨i + 1, s0, s1, by omega, rfl, HI2, HS8⟩
        case measure => simp [intOf]; omega
      | some X =>
        rw [hX] at hN5
        go_wp2_with (first
          | (show wpList _ _ _ ({ dst := _, op := Op.load 24 _, type := _, pos := _, after := _, guard := _ } :: _) _ _
             refine wpList_load_mid rfl 24 _ rfl _ _ rfl _ _ RNG.out hdu hdr (by rw [HKI.out.2.1]; exact info24q) ?_))
        refine hN5.mono ?_
        rintro e w5 ⟨lb, rfl, K5⟩
        have S5 := hS.out.ovr K5
        have hN6 := (HKI.out.1 w5 _ S5).2
        rw [hX] at hN6
        replace RNG := Keep.mk (HKI.out.2.2 w5 _ S5 k3m)
        have HS5 := Keep.mk S5
        clear hN5 K5 S5 hS
        go_wp2_with (first
          | (show wpList _ _ _ ({ dst := _, op := Op.load 24 _, type := _, pos := _, after := _, guard := _ } :: _) _ _
             refine wpList_load_mid rfl 24 _ rfl _ _ rfl _ _ RNG.out hdu hdr (by rw [HKI.out.2.1]; exact info24q) ?_))
        refine hN6.mono ?_
        rintro e w6 ⟨g6, hq⟩
        obtain ⟨kb, rfl, K6⟩ : ∃ kb, e = .returned (.tuple #[pt kb, iv 0]) ∧ Sep w5 w6 [rlobA kb ⟨ci, Pi, []⟩] := by
          rcases hq with ⟨hh, _⟩ | ⟨_, b, he, q⟩
          · cases hh
          · exact ⟨b, he, q⟩
        have S6 := HS5.out.ovr K6
        change Sep w w6 (rlobA kb ⟨ci, Pi, []⟩ :: lobA lb X :: boxA q7 [slL s0, slL s1] 28 :: boxA q8 [slK s0, slK s1] 30 :: boxA rb cc 24 :: (slA s0 ++ slA s1)) at S6
        have t7 : w6.cell? ⟨q7, i, none⟩ = some np := (S6.boxGet k2m).cellv _ _ HNP.out.1.1
        have z7 : w6.frozen? ⟨q7, i, none⟩ = false := (S6.boxGet k2m).frozen _
        have S7 := S6.third.boxPut i (pt lb)
        obtain ⟨w7, hw7⟩ : ∃ w7, w6.setCell ⟨q7, i, none⟩ (pt lb) = w7 := ⟨_, rfl⟩
        rw [hw7] at S7
        have t8 : w7.cell? ⟨q8, i, none⟩ = some np := (S7.boxGet k3m).cellv _ _ HNP.out.1.2
        have z8 : w7.frozen? ⟨q8, i, none⟩ = false := (S7.boxGet k3m).frozen _
        have S7' : Sep w w7 (boxA q8 [slK s0, slK s1] 30 :: boxA q7 ([slL s0, slL s1].set i (pt lb)) 28 :: rlobA kb ⟨ci, Pi, []⟩ :: lobA lb X :: boxA rb cc 24 :: (slA s0 ++ slA s1)) := S7.perm (List.perm_middle (l₁ := [_, _, _]))
        have S8 := S7'.boxPut i (pt kb)
        have HS8 : Keep (∃ t0 t1, ((i + 1 = 0 → t0 = none) ∧ (i + 1 ≤ 1 → t1 = none) ∧ SlOk 0 t0 ∧ SlOk 0 t1) ∧ Sep w (w7.setCell ⟨q8, i, none⟩ (pt kb)) (boxA q7 [slL t0, slL t1] 28 :: boxA q8 [slK t0, slK t1] 30 :: boxA rb cc 24 :: (slA t0 ++ slA t1))) := ⟨by
          have hb : SlOk 0 (some ⟨lb, kb, X, ⟨ci, Pi, []⟩⟩) := ⟨bt_new hX, Nat.le_refl _, fun x hx => by simp at hx⟩
          by_cases h0 : i = 0
          · have e0 := hI.out.1 h0
            have e1 := hI.out.2.1 (by omega)
            subst e0 e1 h0
            refine ⟨some ⟨lb, kb, X, ⟨ci, Pi, []⟩⟩, none, ⟨fun h => by omega, fun _ => rfl, hb, trivial⟩, ?_⟩
            have a1 : Sep w _ (boxA q8 [pt kb, np] 30 :: boxA q7 [pt lb, np] 28 :: rlobA kb ⟨ci, Pi, []⟩ :: lobA lb X :: boxA rb cc 24 :: []) := S8
            exact perm5 a1
          · obtain rfl : i = 1 := by omega
            have e1 := hI.out.2.1 (by omega)
            subst e1
            refine ⟨s0, some ⟨lb, kb, X, ⟨ci, Pi, []⟩⟩, ⟨fun h => by omega, fun h => by omega, hI.out.2.2.1, hb⟩, ?_⟩
            have a1 : Sep w _ (boxA q8 [slK s0, pt kb] 30 :: boxA q7 [slL s0, pt lb] 28 :: rlobA kb ⟨ci, Pi, []⟩ :: lobA lb X :: boxA rb cc 24 :: (slA s0 ++ [])) := S8
            rw [List.append_nil] at a1
            exact (perm5 a1).perm (List.Perm.cons _ (List.Perm.cons _ (List.Perm.cons _ (List.perm_append_comm (l₁ := [_, _]) (l₂ := slA s0)))))⟩
        clear hN6 g6 hq K6 S6 S7 S7' S8 HS5 hX
        go_wp2_with fail
        go_roundw
        case rel =>
          obtain ⟨t0, t1, h1, h2⟩ := HS8.out
          exact ⟨i + 1, t0, t1, by omega, rfl, ⟨h1⟩, ⟨h2⟩⟩
        case measure => simp [intOf]; omega
    · have hi1 : ¬ (i : Int) < 2 := by omega
      have HI2 := Keep.mk hI.out.2.2
      clear hI
      go_wp2_with fail
      go_loopw [15] (fun v wr => ∃ (i : Nat) (s0 s1 : Option Sl), i ≤ 300 ∧ v = iv i ∧ Keep (SlOk i s0 ∧ SlOk i s1) ∧ Keep (Sep w wr (boxA q7 [slL s0, slL s1] 28 :: boxA q8 [slK s0, slK s1] 30 :: boxA rb cc 24 :: (slA s0 ++ slA s1)))) (fun v _ => (300 - intOf v).toNat)
      case atStart => exact ⟨0, s0, s1, by omega, rfl, HI2, hS⟩
      case round =>
        clear hS HI2
        obtain ⟨i, s0, s1, hi, rfl, hI, hS⟩ := hrel
        by_cases hlt : i < n
        · have hi0 : (0 : Int) ≤ (i : Int) := by omega
          have hi1 : (i : Int) < (n : Nat) := by omega
          have hti : ((i : Nat) : Int).toNat = i := by omega
          by_cases h3 : i < 300
          · have hi3 : (i : Int) < 300 := by omega
            have hwi : IntKind.i64.wrap ((i : Int) + 1) = ((i + 1 : Nat) : Int) := by rw [wi _ (by omega) (by omega)]; omega
            obtain ⟨x, hx⟩ : ∃ x, L[i]? = some x := ⟨_, List.getElem?_eq_getElem (by rw [HIN.out.2.2.2]; exact hlt)⟩
            obtain ⟨g, og, rfl, HRX⟩ : ∃ g og, sa = some ⟨g, og, none⟩ ∧ Keep (∀ W l, Sep w W l → W.rangeAt g (og + i * 10) (opv x)) := by
              obtain ⟨a', c', e, q⟩ := HIN.out.1.o
              obtain ⟨g, og, e1, q1⟩ := q (by rw [HIN.out.2.2.2]; omega)
              injection e with e2 _ _
              refine ⟨g, og, e2.trans e1, ⟨fun W l h => ?_⟩⟩
              have := q1 i x hx
              exact fun j v hv => h.g.cell (this j v hv) (by simp)
            have hox := HIN.out.2.1 x (List.mem_of_getElem? hx)
            have xw : wr.cell? ⟨g, og + i * 10 + 1, none⟩ = some (iv x.wh) := HRX.out wr _ hS.out 1 _ rfl
            obtain ⟨uu, huu⟩ : ∃ uu : Nat, IntKind.u64.wrap x.wh = (uu : Nat) := ⟨(IntKind.u64.wrap x.wh).toNat, by
              have : 0 ≤ IntKind.u64.wrap x.wh := by unfold IntKind.wrap; simp [IntKind.signed, IntKind.bits]; omega
              omega⟩
            obtain ⟨k, hk⟩ : ∃ k, uu % 2 = k := ⟨_, rfl⟩
            have hk2 : k < 2 := by omega
            have r1 : Int.tmod (uu : Int) 2 = (k : Nat) := by rw [← hk]; exact (Int.ofNat_tmod uu 2).symm
            have r1' : (uu : Int) % 2 = (k : Nat) := by rw [← hk]; omega
            have r2 : IntKind.u64.wrap ((k : Nat) : Int) = (k : Nat) := Wi.wu _ (by omega) (by omega)
            have r3 : IntKind.i64.wrap ((k : Nat) : Int) = (k : Nat) := wi _ (by omega) (by omega)
            have hk0 : (0 : Int) ≤ (k : Int) := by omega
            have hk1 : (k : Int) < 2 := by omega
            have hkt : ((k : Nat) : Int).toNat = k := by omega
            obtain ⟨sk, so, HSK⟩ : ∃ sk so : Option Sl, Keep ([slL s0, slL s1][k]? = some (slL sk) ∧ [slK s0, slK s1][k]? = some (slK sk) ∧ SlOk i sk ∧ (∀ W, Sep w W (boxA q7 [slL s0, slL s1] 28 :: boxA q8 [slK s0, slK s1] 30 :: boxA rb cc 24 :: (slA s0 ++ slA s1)) → Sep w W (slA sk ++ (boxA q7 [slL s0, slL s1] 28 :: boxA q8 [slK s0, slK s1] 30 :: boxA rb cc 24 :: slA so))) ∧ ∀ W s s', sk = some s → s'.lb = s.lb → s'.kb = s.kb → SlOk (i + 1) (some s') → Sep w W (slA (some s') ++ (boxA q7 [slL s0, slL s1] 28 :: boxA q8 [slK s0, slK s1] 30 :: boxA rb cc 24 :: slA so)) → ∃ t0 t1, (SlOk (i + 1) t0 ∧ SlOk (i + 1) t1) ∧ Sep w W (boxA q7 [slL t0, slL t1] 28 :: boxA q8 [slK t0, slK t1] 30 :: boxA rb cc 24 :: (slA t0 ++ slA t1))) := by
              have hp : ∀ (A B C : List As), (C ++ (A ++ B)).Perm (A ++ (C ++ B)) := fun A B C => by
                rw [← List.append_assoc, ← List.append_assoc]; exact List.Perm.append_right B List.perm_append_comm
              have hk01 : k = 0 ∨ k = 1 := by omega
              rcases hk01 with h0 | h0
              · refine ⟨s0, s1, ⟨by rw [h0]; rfl, by rw [h0]; rfl, hI.out.1, fun W h => h.perm (hp (slA s0) (slA s1) [_, _, _]), fun W s s' es e1 e2 ok h => ⟨some s', s1, ⟨ok, hI.out.2.le (by omega)⟩, ?_⟩⟩⟩
                have a1 := h.perm (hp (slA (some s')) (slA s1) [_, _, _]).symm
                rw [es] at a1
                have b1 : slL (some s') = slL (some s) := by show pt s'.lb = pt s.lb; rw [e1]
                have b2 : slK (some s') = slK (some s) := by show pt s'.kb = pt s.kb; rw [e2]
                rw [b1, b2]
                exact a1
              · refine ⟨s1, s0, ⟨by rw [h0]; rfl, by rw [h0]; rfl, hI.out.2, fun W h => h.perm ((List.Perm.append_left [_, _, _] List.perm_append_comm).trans (hp (slA s1) (slA s0) [_, _, _])), fun W s s' es e1 e2 ok h => ⟨s0, some s', ⟨hI.out.1.le (by omega), ok⟩, ?_⟩⟩⟩
                have a1 := h.perm ((List.Perm.append_left [_, _, _] List.perm_append_comm).trans (hp (slA (some s')) (slA s0) [_, _, _])).symm
                rw [es] at a1
                have b1 : slL (some s') = slL (some s) := by show pt s'.lb = pt s.lb; rw [e1]
                have b2 : slK (some s') = slK (some s) := by show pt s'.kb = pt s.kb; rw [e2]
                rw [b1, b2]
                exact a1
            have t8 : wr.cell? ⟨q8, k, none⟩ = some (slK sk) := (hS.out.boxGet k1m).cellv _ _ HSK.out.2.1
            have HK2 := Keep.mk hk2
            have HLT := Keep.mk hlt
            cases sk with
            | none =>
              change wr.cell? ⟨q8, k, none⟩ = some np at t8
              have HI3 : Keep (SlOk (i + 1) s0 ∧ SlOk (i + 1) s1) := ⟨hI.out.1.le (by omega), hI.out.2.le (by omega)⟩
              clear hk hx hI HSK
              go_wp2_with fail
              go_roundw
              case rel => exact ⟨i + 1, s0, s1, by omega, rfl, HI3, hS⟩
              case measure => simp [intOf]; omega
            | some s =>
              change wr.cell? ⟨q8, k, none⟩ = some (pt s.kb) at t8
              obtain ⟨rest, hrest⟩ : ∃ rest, (boxA q7 [slL s0, slL s1] 28 :: boxA q8 [slK s0, slK s1] 30 :: boxA rb cc 24 :: slA so) = rest := ⟨_, rfl⟩
              have SK : Sep w wr (lobA s.lb s.X :: rlobA s.kb s.Y :: rest) := by rw [← hrest]; exact HSK.out.2.2.2.1 wr hS.out
              have HCE : Keep (∀ W X1 Y1, Sep w W (lobA s.lb X1 :: rlobA s.kb Y1 :: rest) → W.cell? ⟨q7, k, none⟩ = some (pt s.lb) ∧ W.cell? ⟨q8, k, none⟩ = some (pt s.kb)) := ⟨fun W X1 Y1 h => by
                rw [← hrest] at h
                exact ⟨(h.boxGet k2m).cellv _ _ HSK.out.1, (h.boxGet k3m).cellv _ _ HSK.out.2.1⟩⟩
              have HBK : Keep (∀ W s', s'.lb = s.lb → s'.kb = s.kb → SlOk (i + 1) (some s') → Sep w W (lobA s.lb s'.X :: rlobA s.kb s'.Y :: rest) → ∃ t0 t1, (SlOk (i + 1) t0 ∧ SlOk (i + 1) t1) ∧ Sep w W (boxA q7 [slL t0, slL t1] 28 :: boxA q8 [slK t0, slK t1] 30 :: boxA rb cc 24 :: (slA t0 ++ slA t1))) := ⟨fun W s' e1 e2 ok h => HSK.out.2.2.2.2 W s s' rfl e1 e2 ok (by
                rw [hrest]
                show Sep w W (lobA s'.lb s'.X :: rlobA s'.kb s'.Y :: rest)
                rw [e1, e2]; exact h)⟩
              have SD := SK.grown (gr_drew wr none)
              have HPL : Keep (∀ W, Sep w W (lobA s.lb s.X :: rlobA s.kb s.Y :: rest) → Calls Tryz.prog 7 #[pt s.lb, pt s.kb, .agg (opv x).toArray] W fun e W' => e = .returned (.bool true) ∧ ∃ s', s'.lb = s.lb ∧ s'.kb = s.kb ∧ Sep w W' (lobA s.lb s'.X :: rlobA s.kb s'.Y :: rest) ∧ SlOk (i + 1) (some s')) := ⟨fun W h => sl_play w W rest s i x h HSK.out.2.2.1 h3 hox HIN.out.2.2.1⟩
              clear hk hx hI HSK hrest SK hS hox
              go_wp2_with fail
              refine wp_region_held_drew (S := fun w' => ∃ X1 Y1, Sep w w' (lobA s.lb X1 :: rlobA s.kb Y1 :: rest)) (by kernel_rfl) ⟨_, _, SD⟩ (fun hHeld => ?_)
              generalize wr.drew = wA0 at SD hHeld ⊢
              have HSD := Keep.mk SD
              have hPl := HPL.out wA0 SD
              have x0 : wA0.cell? ⟨g, og + i * 10, none⟩ = some (iv x.kd) := HRX.out wA0 _ SD 0 _ rfl
              have x1 : wA0.cell? ⟨g, og + i * 10 + 1, none⟩ = some (iv x.wh) := HRX.out wA0 _ SD 1 _ rfl
              have x2 : wA0.cell? ⟨g, og + i * 10 + 2, none⟩ = some (.string x.a) := HRX.out wA0 _ SD 2 _ rfl
              have x3 : wA0.cell? ⟨g, og + i * 10 + 3, none⟩ = some (.string x.b) := HRX.out wA0 _ SD 3 _ rfl
              have x4 : wA0.cell? ⟨g, og + i * 10 + 4, none⟩ = some (.string x.c) := HRX.out wA0 _ SD 4 _ rfl
              have x5 : wA0.cell? ⟨g, og + i * 10 + 5, none⟩ = some (.string x.nm) := HRX.out wA0 _ SD 5 _ rfl
              have x6 : wA0.cell? ⟨g, og + i * 10 + 6, none⟩ = some (uv x.ses) := HRX.out wA0 _ SD 6 _ rfl
              have x7 : wA0.cell? ⟨g, og + i * 10 + 7, none⟩ = some (uv x.seq) := HRX.out wA0 _ SD 7 _ rfl
              have x8 : wA0.cell? ⟨g, og + i * 10 + 8, none⟩ = some (uv x.tick) := HRX.out wA0 _ SD 8 _ rfl
              have x9 : wA0.cell? ⟨g, og + i * 10 + 9, none⟩ = some (.bool x.yes) := HRX.out wA0 _ SD 9 _ rfl
              clear SD HPL t8 xw HRX
              refine wpAnyH_take (i := 0) (oi := { dst := some 82, op := Op.move (Operand.tmp 16), type := 3, pos := "law.go:150", after := #[], guard := none }) (v := ?_) rfl (by kernel_rfl) (by kernel_rfl) (by kernel_rfl) (fun _ _ _ h => h) (Or.inl ⟨by rfl, ?_⟩) (by assumption) ?_
              rotate_left
              · (intro w hSw; go_simp; first | done | (with_reducible rfl))
              simp only [Act.put, List.setIfInBounds_toArray, List.set_cons_zero, List.set_cons_succ]
              refine wpAnyH_take (i := 1) (oi := { dst := some 83, op := Op.indexAddr 28 (Operand.tmp 7) (Operand.tmp 82), type := 0, pos := "law.go:150", after := #[{ on := 0, ground := Ground.data }], guard := none }) (v := ?_) rfl (by kernel_rfl) (by kernel_rfl) (by kernel_rfl) (fun _ _ _ h => h) (Or.inl ⟨by rfl, ?_⟩) (by assumption) ?_
              rotate_left
              · (intro w hSw; have l1 : (0 : Int) ≤ (k : Int) := (by omega); have l2 : (k : Int) < 2 := (by have := HK2.out; omega); have l3 : ((k : Nat) : Int).toNat = k := (by omega); go_simp; first | done | (with_reducible rfl))
              simp only [Act.put, List.setIfInBounds_toArray, List.set_cons_zero, List.set_cons_succ]
              refine wpAnyH_take (i := 2) (oi := { dst := some 84, op := Op.load 27 (Operand.tmp 83), type := 27, pos := "law.go:150", after := #[{ on := 1, ground := Ground.data }], guard := none }) (v := ?_) rfl (by kernel_rfl) (by kernel_rfl) (by kernel_rfl) (fun _ _ _ h => h) (Or.inl ⟨by rfl, ?_⟩) (by assumption) ?_
              rotate_left
              · (intro w hSw; obtain ⟨X1, Y1, hSw⟩ := hSw; obtain ⟨q1, q2⟩ := HCE.out _ _ _ hSw; go_simp; first | done | (with_reducible rfl))
              simp only [Act.put, List.setIfInBounds_toArray, List.set_cons_zero, List.set_cons_succ]
              refine wpAnyH_take (i := 3) (oi := { dst := some 85, op := Op.move (Operand.tmp 16), type := 3, pos := "law.go:150", after := #[], guard := none }) (v := ?_) rfl (by kernel_rfl) (by kernel_rfl) (by kernel_rfl) (fun _ _ _ h => h) (Or.inl ⟨by rfl, ?_⟩) (by assumption) ?_
              rotate_left
              · (intro w hSw; go_simp; first | done | (with_reducible rfl))
              simp only [Act.put, List.setIfInBounds_toArray, List.set_cons_zero, List.set_cons_succ]
              refine wpAnyH_take (i := 4) (oi := { dst := some 86, op := Op.indexAddr 30 (Operand.tmp 8) (Operand.tmp 85), type := 0, pos := "law.go:150", after := #[{ on := 3, ground := Ground.data }], guard := none }) (v := ?_) rfl (by kernel_rfl) (by kernel_rfl) (by kernel_rfl) (fun _ _ _ h => h) (Or.inl ⟨by rfl, ?_⟩) (by assumption) ?_
              rotate_left
              · (intro w hSw; have l1 : (0 : Int) ≤ (k : Int) := (by omega); have l2 : (k : Int) < 2 := (by have := HK2.out; omega); have l3 : ((k : Nat) : Int).toNat = k := (by omega); go_simp; first | done | (with_reducible rfl))
              simp only [Act.put, List.setIfInBounds_toArray, List.set_cons_zero, List.set_cons_succ]
              refine wpAnyH_take (i := 5) (oi := { dst := some 87, op := Op.load 29 (Operand.tmp 86), type := 29, pos := "law.go:150", after := #[{ on := 4, ground := Ground.data }], guard := none }) (v := ?_) rfl (by kernel_rfl) (by kernel_rfl) (by kernel_rfl) (fun _ _ _ h => h) (Or.inl ⟨by rfl, ?_⟩) (by assumption) ?_
              rotate_left
              · (intro w hSw; obtain ⟨X1, Y1, hSw⟩ := hSw; obtain ⟨q1, q2⟩ := HCE.out _ _ _ hSw; go_simp; first | done | (with_reducible rfl))
              simp only [Act.put, List.setIfInBounds_toArray, List.set_cons_zero, List.set_cons_succ]
              refine wpAnyH_take (i := 6) (oi := { dst := some 88, op := Op.move (Operand.tmp 2), type := 25, pos := "law.go:150", after := #[], guard := none }) (v := ?_) rfl (by kernel_rfl) (by kernel_rfl) (by kernel_rfl) (fun _ _ _ h => h) (Or.inl ⟨by rfl, ?_⟩) (by assumption) ?_
              rotate_left
              · (intro w hSw; go_simp; first | done | (with_reducible rfl))
              simp only [Act.put, List.setIfInBounds_toArray, List.set_cons_zero, List.set_cons_succ]
              refine wpAnyH_take (i := 7) (oi := { dst := some 89, op := Op.move (Operand.tmp 15), type := 3, pos := "law.go:150", after := #[], guard := none }) (v := ?_) rfl (by kernel_rfl) (by kernel_rfl) (by kernel_rfl) (fun _ _ _ h => h) (Or.inl ⟨by rfl, ?_⟩) (by assumption) ?_
              rotate_left
              · (intro w hSw; go_simp; first | done | (with_reducible rfl))
              simp only [Act.put, List.setIfInBounds_toArray, List.set_cons_zero, List.set_cons_succ]
              refine wpAnyH_take (i := 8) (oi := { dst := some 90, op := Op.indexAddr 25 (Operand.tmp 88) (Operand.tmp 89), type := 0, pos := "law.go:150", after := #[{ on := 6, ground := Ground.data }, { on := 7, ground := Ground.data }], guard := none }) (v := ?_) rfl (by kernel_rfl) (by kernel_rfl) (by kernel_rfl) (fun _ _ _ h => h) (Or.inl ⟨by rfl, ?_⟩) (by assumption) ?_
              rotate_left
              · (intro w hSw; have l1 : (0 : Int) ≤ (i : Int) := (by omega); have l2 : (i : Int) < (n : Nat) := (by have := HLT.out; omega); have l3 : ((i : Nat) : Int).toNat = i := (by omega); go_simp; first | done | (with_reducible rfl))
              simp only [Act.put, List.setIfInBounds_toArray, List.set_cons_zero, List.set_cons_succ]
              refine wpAnyH_ready (rs := [9]) (by kernel_rfl) (by simp) ?_
              refine AllReadyH.cons (o := { dst := some 91, op := Op.load 40 (Operand.tmp 90), type := 40, pos := "law.go:150", after := #[{ on := 8, ground := Ground.data }], guard := none }) rfl (fun K hK => ?_) AllReadyH.nil
              go_simp
              refine hK.out _ _ ⟨_, _, HSD.out⟩ (fun hHeld => ?_)
              clear hK K
              refine wpAnyH_ready (rs := [10]) (by kernel_rfl) (by simp) ?_
              refine AllReadyH.cons (o := { dst := some 92, op := Op.call { callee := Callee.value (Operand.func 7), args := #[Operand.tmp 84, Operand.tmp 87, Operand.tmp 91], argTypes := #[27, 29, 40] }, type := 4, pos := "law.go:150", after := #[{ on := 2, ground := Ground.data }, { on := 5, ground := Ground.data }, { on := 9, ground := Ground.data }], guard := none }) rfl (fun K hK => ?_) AllReadyH.nil
              go_simp
              refine hPl.mono ?_
              rintro e wB ⟨rfl, s', e1, e2, SB, okB⟩
              have HSB := Keep.mk (And.intro SB okB)
              have HE := Keep.mk (And.intro e1 e2)
              refine hK.out _ _ ⟨_, _, SB⟩ (fun hHeld => ?_)
              clear hK K hPl SB okB HSD e1 e2 x0 x1 x2 x3 x4 x5 x6 x7 x8 x9
              refine wpAnyH_take (i := 11) (oi := { dst := some 17, op := Op.assign (Operand.tmp 92), type := 4, pos := "law.go:150", after := #[{ on := 10, ground := Ground.data }, { on := 10, ground := Ground.chain }, { on := 0, ground := Ground.phase }, { on := 1, ground := Ground.phase }, { on := 2, ground := Ground.phase }, { on := 3, ground := Ground.phase }, { on := 4, ground := Ground.phase }, { on := 5, ground := Ground.phase }, { on := 6, ground := Ground.phase }, { on := 7, ground := Ground.phase }, { on := 8, ground := Ground.phase }, { on := 9, ground := Ground.phase }, { on := 10, ground := Ground.phase }], guard := none }) (v := ?_) rfl (by kernel_rfl) (by kernel_rfl) (by kernel_rfl) (fun _ _ _ h => h) (Or.inl ⟨by rfl, ?_⟩) (by assumption) ?_
              rotate_left
              · (intro w hSw; go_simp; first | done | (with_reducible rfl))
              simp only [Act.put, List.setIfInBounds_toArray, List.set_cons_zero, List.set_cons_succ]
              refine wpAnyH_done (by kernel_rfl) ?_ _
              have HNX := Keep.mk (HBK.out _ s' HE.out.1 HE.out.2 HSB.out.2 HSB.out.1)
              clear HSB HE HBK HCE hHeld
              go_wp2_with fail
              go_roundw
              case rel =>
                obtain ⟨t0, t1, h1, h2⟩ := HNX.out
                exact ⟨i + 1, t0, t1, by omega, rfl, ⟨h1⟩, ⟨h2⟩⟩
              case measure => simp [intOf]; omega
          · have hi3 : ¬ (i : Int) < 300 := by omega
            have HI3 := Keep.mk (And.intro (hI.out.1.le hi) (hI.out.2.le hi))
            clear hI
            go_wp2_with fail
            go_loopw [18] (fun v wr => ∃ i : Nat, i ≤ 2 ∧ v = iv i ∧ Keep (Sep w wr (boxA q7 [slL s0, slL s1] 28 :: boxA q8 [slK s0, slK s1] 30 :: boxA rb cc 24 :: (slA s0 ++ slA s1)))) (fun v _ => (2 - intOf v).toNat)
            case atStart => exact ⟨0, by omega, rfl, hS⟩
            case round =>
              clear hS
              obtain ⟨i, hi, rfl, hS⟩ := hrel
              by_cases hlt : i < 2
              · have hi0 : (0 : Int) ≤ (i : Int) := by omega
                have hi1 : (i : Int) < 2 := by omega
                have hti : ((i : Nat) : Int).toNat = i := by omega
                have hwi : IntKind.i64.wrap ((i : Int) + 1) = ((i + 1 : Nat) : Int) := by rw [wi _ (by omega) (by omega)]; omega
                have HLT := Keep.mk hlt
                obtain ⟨sk, so, HSK⟩ : ∃ sk so : Option Sl, Keep ([slL s0, slL s1][i]? = some (slL sk) ∧ [slK s0, slK s1][i]? = some (slK sk) ∧ SlOk 300 sk ∧ (∀ W, Sep w W (boxA q7 [slL s0, slL s1] 28 :: boxA q8 [slK s0, slK s1] 30 :: boxA rb cc 24 :: (slA s0 ++ slA s1)) ↔ Sep w W (slA sk ++ (boxA q7 [slL s0, slL s1] 28 :: boxA q8 [slK s0, slK s1] 30 :: boxA rb cc 24 :: slA so)))) := by
                  have hp : ∀ (A B C : List As), (C ++ (A ++ B)).Perm (A ++ (C ++ B)) := fun A B C => by
                    rw [← List.append_assoc, ← List.append_assoc]; exact List.Perm.append_right B List.perm_append_comm
                  have hk01 : i = 0 ∨ i = 1 := by omega
                  rcases hk01 with h0 | h0
                  · exact ⟨s0, s1, ⟨by rw [h0]; rfl, by rw [h0]; rfl, HI3.out.1, fun W => ⟨fun h => h.perm (hp (slA s0) (slA s1) [_, _, _]), fun h => h.perm (hp (slA s0) (slA s1) [_, _, _]).symm⟩⟩⟩
                  · exact ⟨s1, s0, ⟨by rw [h0]; rfl, by rw [h0]; rfl, HI3.out.2, fun W => ⟨fun h => h.perm ((List.Perm.append_left [_, _, _] List.perm_append_comm).trans (hp (slA s1) (slA s0) [_, _, _])), fun h => h.perm ((List.Perm.append_left [_, _, _] List.perm_append_comm).trans (hp (slA s1) (slA s0) [_, _, _])).symm⟩⟩⟩
                have SD := hS.out.grown (gr_drew wr none)
                cases sk with
                | none =>
                  have HCN : Keep (∀ W, Sep w W (boxA q7 [slL s0, slL s1] 28 :: boxA q8 [slK s0, slK s1] 30 :: boxA rb cc 24 :: (slA s0 ++ slA s1)) → W.cell? ⟨q8, i, none⟩ = some np) := ⟨fun W h => (h.boxGet k1m).cellv _ _ HSK.out.2.1⟩
                  clear HSK hS
                  go_wp2_with fail
                  refine wp_region_held_drew (S := fun w' => Sep w w' (boxA q7 [slL s0, slL s1] 28 :: boxA q8 [slK s0, slK s1] 30 :: boxA rb cc 24 :: (slA s0 ++ slA s1))) (by kernel_rfl) SD (fun hHeld => ?_)
                  generalize wr.drew = wA0 at SD hHeld ⊢
                  refine wpAnyH_take (i := 0) (oi := { dst := some 99, op := Op.move (Operand.tmp 18), type := 3, pos := "law.go:156", after := #[], guard := none }) (v := ?_) rfl (by kernel_rfl) (by kernel_rfl) (by kernel_rfl) (fun _ _ _ h => h) (Or.inl ⟨by rfl, ?_⟩) (by assumption) ?_
                  rotate_left
                  · (intro w hSw; go_simp; first | done | (with_reducible rfl))
                  simp only [Act.put, List.setIfInBounds_toArray, List.set_cons_zero, List.set_cons_succ]
                  refine wpAnyH_take (i := 1) (oi := { dst := some 100, op := Op.indexAddr 30 (Operand.tmp 8) (Operand.tmp 99), type := 0, pos := "law.go:156", after := #[{ on := 0, ground := Ground.data }], guard := none }) (v := ?_) rfl (by kernel_rfl) (by kernel_rfl) (by kernel_rfl) (fun _ _ _ h => h) (Or.inl ⟨by rfl, ?_⟩) (by assumption) ?_
                  rotate_left
                  · (intro w hSw; have l1 : (0 : Int) ≤ (i : Int) := (by omega); have l2 : (i : Int) < 2 := (by have := HLT.out; omega); have l3 : ((i : Nat) : Int).toNat = i := (by omega); go_simp; first | done | (with_reducible rfl))
                  simp only [Act.put, List.setIfInBounds_toArray, List.set_cons_zero, List.set_cons_succ]
                  refine wpAnyH_take (i := 2) (oi := { dst := some 101, op := Op.load 29 (Operand.tmp 100), type := 29, pos := "law.go:156", after := #[{ on := 1, ground := Ground.data }], guard := none }) (v := ?_) rfl (by kernel_rfl) (by kernel_rfl) (by kernel_rfl) (fun _ _ _ h => h) (Or.inl ⟨by rfl, ?_⟩) (by assumption) ?_
                  rotate_left
                  · (intro w hSw; have q2 := HCN.out _ hSw; go_simp; first | done | (with_reducible rfl))
                  simp only [Act.put, List.setIfInBounds_toArray, List.set_cons_zero, List.set_cons_succ]
                  refine wpAnyH_take (i := 3) (oi := { dst := some 102, op := Op.binOp BinOp.neq 29 (Operand.tmp 101) (Operand.const (Value.pointer none)) 29, type := 4, pos := "law.go:156", after := #[{ on := 2, ground := Ground.data }], guard := none }) (v := ?_) rfl (by kernel_rfl) (by kernel_rfl) (by kernel_rfl) (fun _ _ _ h => h) (Or.inl ⟨by rfl, ?_⟩) (by assumption) ?_
                  rotate_left
                  · (intro w hSw; go_simp; first | done | (with_reducible rfl))
                  simp only [Act.put, List.setIfInBounds_toArray, List.set_cons_zero, List.set_cons_succ]
                  refine wpAnyH_take (i := 4) (oi := { dst := some 103, op := Op.move (Operand.tmp 102), type := 4, pos := "law.go:156", after := #[{ on := 3, ground := Ground.data }], guard := none }) (v := ?_) rfl (by kernel_rfl) (by kernel_rfl) (by kernel_rfl) (fun _ _ _ h => h) (Or.inl ⟨by rfl, ?_⟩) (by assumption) ?_
                  rotate_left
                  · (intro w hSw; go_simp; first | done | (with_reducible rfl))
                  simp only [Act.put, List.setIfInBounds_toArray, List.set_cons_zero, List.set_cons_succ]
                  refine wpAnyH_take (i := 5) (oi := { dst := some 104, op := Op.move (Operand.tmp 18), type := 3, pos := "law.go:156", after := #[{ on := 4, ground := Ground.guard }], guard := some (4, true) }) (v := undef) rfl (by kernel_rfl) (by kernel_rfl) (by kernel_rfl) (fun _ _ _ h => h) (Or.inr ⟨by rfl, rfl⟩) (by assumption) ?_
                  simp only [Act.put, List.setIfInBounds_toArray, List.set_cons_zero, List.set_cons_succ]
                  refine wpAnyH_take (i := 6) (oi := { dst := some 105, op := Op.indexAddr 28 (Operand.tmp 7) (Operand.tmp 104), type := 0, pos := "law.go:156", after := #[{ on := 5, ground := Ground.data }, { on := 4, ground := Ground.guard }], guard := some (4, true) }) (v := undef) rfl (by kernel_rfl) (by kernel_rfl) (by kernel_rfl) (fun _ _ _ h => h) (Or.inr ⟨by rfl, rfl⟩) (by assumption) ?_
                  simp only [Act.put, List.setIfInBounds_toArray, List.set_cons_zero, List.set_cons_succ]
                  refine wpAnyH_take (i := 7) (oi := { dst := some 106, op := Op.load 27 (Operand.tmp 105), type := 27, pos := "law.go:156", after := #[{ on := 6, ground := Ground.data }, { on := 4, ground := Ground.guard }], guard := some (4, true) }) (v := undef) rfl (by kernel_rfl) (by kernel_rfl) (by kernel_rfl) (fun _ _ _ h => h) (Or.inr ⟨by rfl, rfl⟩) (by assumption) ?_
                  simp only [Act.put, List.setIfInBounds_toArray, List.set_cons_zero, List.set_cons_succ]
                  refine wpAnyH_take (i := 9) (oi := { dst := some 108, op := Op.move (Operand.tmp 18), type := 3, pos := "law.go:156", after := #[{ on := 4, ground := Ground.guard }], guard := some (4, true) }) (v := undef) rfl (by kernel_rfl) (by kernel_rfl) (by kernel_rfl) (fun _ _ _ h => h) (Or.inr ⟨by rfl, rfl⟩) (by assumption) ?_
                  simp only [Act.put, List.setIfInBounds_toArray, List.set_cons_zero, List.set_cons_succ]
                  refine wpAnyH_take (i := 10) (oi := { dst := some 109, op := Op.indexAddr 30 (Operand.tmp 8) (Operand.tmp 108), type := 0, pos := "law.go:156", after := #[{ on := 9, ground := Ground.data }, { on := 4, ground := Ground.guard }], guard := some (4, true) }) (v := undef) rfl (by kernel_rfl) (by kernel_rfl) (by kernel_rfl) (fun _ _ _ h => h) (Or.inr ⟨by rfl, rfl⟩) (by assumption) ?_
                  simp only [Act.put, List.setIfInBounds_toArray, List.set_cons_zero, List.set_cons_succ]
                  refine wpAnyH_take (i := 11) (oi := { dst := some 110, op := Op.load 29 (Operand.tmp 109), type := 29, pos := "law.go:156", after := #[{ on := 10, ground := Ground.data }, { on := 4, ground := Ground.guard }], guard := some (4, true) }) (v := undef) rfl (by kernel_rfl) (by kernel_rfl) (by kernel_rfl) (fun _ _ _ h => h) (Or.inr ⟨by rfl, rfl⟩) (by assumption) ?_
                  simp only [Act.put, List.setIfInBounds_toArray, List.set_cons_zero, List.set_cons_succ]
                  refine wpAnyH_take (i := 8) (oi := { dst := some 107, op := Op.call { callee := Callee.value (Operand.func 9), args := #[Operand.tmp 106], argTypes := #[27] }, type := 43, pos := "law.go:156", after := #[{ on := 7, ground := Ground.data }, { on := 4, ground := Ground.chain }, { on := 4, ground := Ground.guard }], guard := some (4, true) }) (v := undef) rfl (by kernel_rfl) (by kernel_rfl) (by kernel_rfl) (fun _ _ _ h => h) (Or.inr ⟨by rfl, rfl⟩) (by assumption) ?_
                  simp only [Act.put, List.setIfInBounds_toArray, List.set_cons_zero, List.set_cons_succ]
                  refine wpAnyH_take (i := 12) (oi := { dst := some 111, op := Op.call { callee := Callee.value (Operand.func 10), args := #[Operand.tmp 110], argTypes := #[29] }, type := 43, pos := "law.go:156", after := #[{ on := 11, ground := Ground.data }, { on := 8, ground := Ground.chain }, { on := 4, ground := Ground.guard }], guard := some (4, true) }) (v := undef) rfl (by kernel_rfl) (by kernel_rfl) (by kernel_rfl) (fun _ _ _ h => h) (Or.inr ⟨by rfl, rfl⟩) (by assumption) ?_
                  simp only [Act.put, List.setIfInBounds_toArray, List.set_cons_zero, List.set_cons_succ]
                  refine wpAnyH_take (i := 13) (oi := { dst := some 112, op := Op.call { callee := Callee.value (Operand.func 8), args := #[Operand.tmp 107, Operand.tmp 111], argTypes := #[43, 43] }, type := 4, pos := "law.go:156", after := #[{ on := 8, ground := Ground.data }, { on := 12, ground := Ground.data }, { on := 12, ground := Ground.chain }, { on := 4, ground := Ground.guard }], guard := some (4, true) }) (v := undef) rfl (by kernel_rfl) (by kernel_rfl) (by kernel_rfl) (fun _ _ _ h => h) (Or.inr ⟨by rfl, rfl⟩) (by assumption) ?_
                  simp only [Act.put, List.setIfInBounds_toArray, List.set_cons_zero, List.set_cons_succ]
                  refine wpAnyH_take (i := 14) (oi := { dst := some 113, op := Op.unOp UnOp.not 4 (Operand.tmp 112), type := 4, pos := "law.go:156", after := #[{ on := 13, ground := Ground.data }, { on := 4, ground := Ground.guard }], guard := some (4, true) }) (v := undef) rfl (by kernel_rfl) (by kernel_rfl) (by kernel_rfl) (fun _ _ _ h => h) (Or.inr ⟨by rfl, rfl⟩) (by assumption) ?_
                  simp only [Act.put, List.setIfInBounds_toArray, List.set_cons_zero, List.set_cons_succ]
                  refine wpAnyH_take (i := 15) (oi := { dst := some 114, op := Op.move (Operand.tmp 113), type := 4, pos := "law.go:156", after := #[{ on := 14, ground := Ground.data }, { on := 13, ground := Ground.chain }, { on := 4, ground := Ground.guard }], guard := some (4, true) }) (v := undef) rfl (by kernel_rfl) (by kernel_rfl) (by kernel_rfl) (fun _ _ _ h => h) (Or.inr ⟨by rfl, rfl⟩) (by assumption) ?_
                  simp only [Act.put, List.setIfInBounds_toArray, List.set_cons_zero, List.set_cons_succ]
                  refine wpAnyH_take (i := 16) (oi := { dst := some 115, op := Op.move (Operand.tmp 18), type := 3, pos := "law.go:156", after := #[{ on := 15, ground := Ground.guard }], guard := some (15, false) }) (v := undef) rfl (by kernel_rfl) (by kernel_rfl) (by kernel_rfl) (fun _ _ _ h => h) (Or.inr ⟨by rfl, rfl⟩) (by assumption) ?_
                  simp only [Act.put, List.setIfInBounds_toArray, List.set_cons_zero, List.set_cons_succ]
                  refine wpAnyH_take (i := 17) (oi := { dst := some 116, op := Op.indexAddr 28 (Operand.tmp 7) (Operand.tmp 115), type := 0, pos := "law.go:156", after := #[{ on := 16, ground := Ground.data }, { on := 15, ground := Ground.guard }], guard := some (15, false) }) (v := undef) rfl (by kernel_rfl) (by kernel_rfl) (by kernel_rfl) (fun _ _ _ h => h) (Or.inr ⟨by rfl, rfl⟩) (by assumption) ?_
                  simp only [Act.put, List.setIfInBounds_toArray, List.set_cons_zero, List.set_cons_succ]
                  refine wpAnyH_take (i := 18) (oi := { dst := some 117, op := Op.load 27 (Operand.tmp 116), type := 27, pos := "law.go:156", after := #[{ on := 17, ground := Ground.data }, { on := 15, ground := Ground.guard }], guard := some (15, false) }) (v := undef) rfl (by kernel_rfl) (by kernel_rfl) (by kernel_rfl) (fun _ _ _ h => h) (Or.inr ⟨by rfl, rfl⟩) (by assumption) ?_
                  simp only [Act.put, List.setIfInBounds_toArray, List.set_cons_zero, List.set_cons_succ]
                  refine wpAnyH_take (i := 20) (oi := { dst := some 119, op := Op.move (Operand.tmp 18), type := 3, pos := "law.go:156", after := #[{ on := 15, ground := Ground.guard }], guard := some (15, false) }) (v := undef) rfl (by kernel_rfl) (by kernel_rfl) (by kernel_rfl) (fun _ _ _ h => h) (Or.inr ⟨by rfl, rfl⟩) (by assumption) ?_
                  simp only [Act.put, List.setIfInBounds_toArray, List.set_cons_zero, List.set_cons_succ]
                  refine wpAnyH_take (i := 21) (oi := { dst := some 120, op := Op.indexAddr 30 (Operand.tmp 8) (Operand.tmp 119), type := 0, pos := "law.go:156", after := #[{ on := 20, ground := Ground.data }, { on := 15, ground := Ground.guard }], guard := some (15, false) }) (v := undef) rfl (by kernel_rfl) (by kernel_rfl) (by kernel_rfl) (fun _ _ _ h => h) (Or.inr ⟨by rfl, rfl⟩) (by assumption) ?_
                  simp only [Act.put, List.setIfInBounds_toArray, List.set_cons_zero, List.set_cons_succ]
                  refine wpAnyH_take (i := 22) (oi := { dst := some 121, op := Op.load 29 (Operand.tmp 120), type := 29, pos := "law.go:156", after := #[{ on := 21, ground := Ground.data }, { on := 15, ground := Ground.guard }], guard := some (15, false) }) (v := undef) rfl (by kernel_rfl) (by kernel_rfl) (by kernel_rfl) (fun _ _ _ h => h) (Or.inr ⟨by rfl, rfl⟩) (by assumption) ?_
                  simp only [Act.put, List.setIfInBounds_toArray, List.set_cons_zero, List.set_cons_succ]
                  refine wpAnyH_take (i := 19) (oi := { dst := some 118, op := Op.call { callee := Callee.value (Operand.func 11), args := #[Operand.tmp 117], argTypes := #[27] }, type := 38, pos := "law.go:156", after := #[{ on := 18, ground := Ground.data }, { on := 15, ground := Ground.chain }, { on := 15, ground := Ground.guard }], guard := some (15, false) }) (v := undef) rfl (by kernel_rfl) (by kernel_rfl) (by kernel_rfl) (fun _ _ _ h => h) (Or.inr ⟨by rfl, rfl⟩) (by assumption) ?_
                  simp only [Act.put, List.setIfInBounds_toArray, List.set_cons_zero, List.set_cons_succ]
                  refine wpAnyH_take (i := 23) (oi := { dst := some 122, op := Op.call { callee := Callee.value (Operand.func 12), args := #[Operand.tmp 121], argTypes := #[29] }, type := 38, pos := "law.go:156", after := #[{ on := 22, ground := Ground.data }, { on := 19, ground := Ground.chain }, { on := 15, ground := Ground.guard }], guard := some (15, false) }) (v := undef) rfl (by kernel_rfl) (by kernel_rfl) (by kernel_rfl) (fun _ _ _ h => h) (Or.inr ⟨by rfl, rfl⟩) (by assumption) ?_
                  simp only [Act.put, List.setIfInBounds_toArray, List.set_cons_zero, List.set_cons_succ]
                  refine wpAnyH_take (i := 24) (oi := { dst := some 123, op := Op.binOp BinOp.neq 38 (Operand.tmp 118) (Operand.tmp 122) 38, type := 4, pos := "law.go:156", after := #[{ on := 19, ground := Ground.data }, { on := 23, ground := Ground.data }, { on := 15, ground := Ground.guard }], guard := some (15, false) }) (v := undef) rfl (by kernel_rfl) (by kernel_rfl) (by kernel_rfl) (fun _ _ _ h => h) (Or.inr ⟨by rfl, rfl⟩) (by assumption) ?_
                  simp only [Act.put, List.setIfInBounds_toArray, List.set_cons_zero, List.set_cons_succ]
                  refine wpAnyH_take (i := 25) (oi := { dst := some 124, op := Op.pick (Operand.tmp 114) (Operand.const (Value.bool true)) (Operand.tmp 123), type := 4, pos := "law.go:156", after := #[{ on := 15, ground := Ground.data }, { on := 24, ground := Ground.data }, { on := 4, ground := Ground.guard }], guard := some (4, true) }) (v := undef) rfl (by kernel_rfl) (by kernel_rfl) (by kernel_rfl) (fun _ _ _ h => h) (Or.inr ⟨by rfl, rfl⟩) (by assumption) ?_
                  simp only [Act.put, List.setIfInBounds_toArray, List.set_cons_zero, List.set_cons_succ]
                  refine wpAnyH_take (i := 26) (oi := { dst := some 125, op := Op.pick (Operand.tmp 103) (Operand.tmp 124) (Operand.const (Value.bool false)), type := 4, pos := "law.go:156", after := #[{ on := 4, ground := Ground.data }, { on := 25, ground := Ground.data }], guard := none }) (v := ?_) rfl (by kernel_rfl) (by kernel_rfl) (by kernel_rfl) (fun _ _ _ h => h) (Or.inl ⟨by rfl, ?_⟩) (by assumption) ?_
                  rotate_left
                  · (intro w hSw; go_simp; first | done | (with_reducible rfl))
                  simp only [Act.put, List.setIfInBounds_toArray, List.set_cons_zero, List.set_cons_succ]
                  refine wpAnyH_done (by kernel_rfl) ?_ _
                  have HSX := Keep.mk SD
                  clear SD hHeld HCN
                  go_wp2_with fail
                  go_roundw
                  case rel => exact ⟨i + 1, by omega, rfl, HSX⟩
                  case measure => simp [intOf]; omega
                | some s =>
                  obtain ⟨rest, hrest⟩ : ∃ rest, (boxA q7 [slL s0, slL s1] 28 :: boxA q8 [slK s0, slK s1] 30 :: boxA rb cc 24 :: slA so) = rest := ⟨_, rfl⟩
                  have SD2 : Sep w wr.drew (lobA s.lb s.X :: rlobA s.kb s.Y :: rest) := by rw [← hrest]; exact (HSK.out.2.2.2 _).1 SD
                  have HCE : Keep (∀ W, Sep w W (lobA s.lb s.X :: rlobA s.kb s.Y :: rest) → W.cell? ⟨q7, i, none⟩ = some (pt s.lb) ∧ W.cell? ⟨q8, i, none⟩ = some (pt s.kb)) := ⟨fun W h => by
                    rw [← hrest] at h
                    exact ⟨(h.boxGet k2m).cellv _ _ HSK.out.1, (h.boxGet k3m).cellv _ _ HSK.out.2.1⟩⟩
                  have HBK : Keep (∀ W, Sep w W (lobA s.lb s.X :: rlobA s.kb s.Y :: rest) → Sep w W (boxA q7 [slL s0, slL s1] 28 :: boxA q8 [slK s0, slK s1] 30 :: boxA rb cc 24 :: (slA s0 ++ slA s1))) := ⟨fun W h => (HSK.out.2.2.2 W).2 (by rw [hrest]; exact h)⟩
                  have HBT : Keep (Bt s.X s.Y) := ⟨HSK.out.2.2.1.1⟩
                  clear HSK hrest hS SD
                  go_wp2_with fail
                  refine wp_region_held_drew (S := fun w' => Sep w w' (lobA s.lb s.X :: rlobA s.kb s.Y :: rest)) (by kernel_rfl) SD2 (fun hHeld => ?_)
                  generalize wr.drew = wA0 at SD2 hHeld ⊢
                  have hLv := lives_c w wA0 _ s.lb s.X SD2 HBT.out.ok HBT.out.up
                  clear SD2
                  refine wpAnyH_take (i := 0) (oi := { dst := some 99, op := Op.move (Operand.tmp 18), type := 3, pos := "law.go:156", after := #[], guard := none }) (v := ?_) rfl (by kernel_rfl) (by kernel_rfl) (by kernel_rfl) (fun _ _ _ h => h) (Or.inl ⟨by rfl, ?_⟩) (by assumption) ?_
                  rotate_left
                  · (intro w hSw; go_simp; first | done | (with_reducible rfl))
                  simp only [Act.put, List.setIfInBounds_toArray, List.set_cons_zero, List.set_cons_succ]
                  refine wpAnyH_take (i := 1) (oi := { dst := some 100, op := Op.indexAddr 30 (Operand.tmp 8) (Operand.tmp 99), type := 0, pos := "law.go:156", after := #[{ on := 0, ground := Ground.data }], guard := none }) (v := ?_) rfl (by kernel_rfl) (by kernel_rfl) (by kernel_rfl) (fun _ _ _ h => h) (Or.inl ⟨by rfl, ?_⟩) (by assumption) ?_
                  rotate_left
                  · (intro w hSw; have l1 : (0 : Int) ≤ (i : Int) := (by omega); have l2 : (i : Int) < 2 := (by have := HLT.out; omega); have l3 : ((i : Nat) : Int).toNat = i := (by omega); go_simp; first | done | (with_reducible rfl))
                  simp only [Act.put, List.setIfInBounds_toArray, List.set_cons_zero, List.set_cons_succ]
                  refine wpAnyH_take (i := 2) (oi := { dst := some 101, op := Op.load 29 (Operand.tmp 100), type := 29, pos := "law.go:156", after := #[{ on := 1, ground := Ground.data }], guard := none }) (v := ?_) rfl (by kernel_rfl) (by kernel_rfl) (by kernel_rfl) (fun _ _ _ h => h) (Or.inl ⟨by rfl, ?_⟩) (by assumption) ?_
                  rotate_left
                  · (intro w hSw; obtain ⟨q1, q2⟩ := HCE.out _ hSw; go_simp; first | done | (with_reducible rfl))
                  simp only [Act.put, List.setIfInBounds_toArray, List.set_cons_zero, List.set_cons_succ]
                  refine wpAnyH_take (i := 3) (oi := { dst := some 102, op := Op.binOp BinOp.neq 29 (Operand.tmp 101) (Operand.const (Value.pointer none)) 29, type := 4, pos := "law.go:156", after := #[{ on := 2, ground := Ground.data }], guard := none }) (v := ?_) rfl (by kernel_rfl) (by kernel_rfl) (by kernel_rfl) (fun _ _ _ h => h) (Or.inl ⟨by rfl, ?_⟩) (by assumption) ?_
                  rotate_left
                  · (intro w hSw; go_simp; first | done | (with_reducible rfl))
                  simp only [Act.put, List.setIfInBounds_toArray, List.set_cons_zero, List.set_cons_succ]
                  refine wpAnyH_take (i := 4) (oi := { dst := some 103, op := Op.move (Operand.tmp 102), type := 4, pos := "law.go:156", after := #[{ on := 3, ground := Ground.data }], guard := none }) (v := ?_) rfl (by kernel_rfl) (by kernel_rfl) (by kernel_rfl) (fun _ _ _ h => h) (Or.inl ⟨by rfl, ?_⟩) (by assumption) ?_
                  rotate_left
                  · (intro w hSw; go_simp; first | done | (with_reducible rfl))
                  simp only [Act.put, List.setIfInBounds_toArray, List.set_cons_zero, List.set_cons_succ]
                  refine wpAnyH_take (i := 5) (oi := { dst := some 104, op := Op.move (Operand.tmp 18), type := 3, pos := "law.go:156", after := #[{ on := 4, ground := Ground.guard }], guard := some (4, true) }) (v := ?_) rfl (by kernel_rfl) (by kernel_rfl) (by kernel_rfl) (fun _ _ _ h => h) (Or.inl ⟨by rfl, ?_⟩) (by assumption) ?_
                  rotate_left
                  · (intro w hSw; go_simp; first | done | (with_reducible rfl))
                  simp only [Act.put, List.setIfInBounds_toArray, List.set_cons_zero, List.set_cons_succ]
                  refine wpAnyH_take (i := 6) (oi := { dst := some 105, op := Op.indexAddr 28 (Operand.tmp 7) (Operand.tmp 104), type := 0, pos := "law.go:156", after := #[{ on := 5, ground := Ground.data }, { on := 4, ground := Ground.guard }], guard := some (4, true) }) (v := ?_) rfl (by kernel_rfl) (by kernel_rfl) (by kernel_rfl) (fun _ _ _ h => h) (Or.inl ⟨by rfl, ?_⟩) (by assumption) ?_
                  rotate_left
                  · (intro w hSw; have l1 : (0 : Int) ≤ (i : Int) := (by omega); have l2 : (i : Int) < 2 := (by have := HLT.out; omega); have l3 : ((i : Nat) : Int).toNat = i := (by omega); go_simp; first | done | (with_reducible rfl))
                  simp only [Act.put, List.setIfInBounds_toArray, List.set_cons_zero, List.set_cons_succ]
                  refine wpAnyH_take (i := 7) (oi := { dst := some 106, op := Op.load 27 (Operand.tmp 105), type := 27, pos := "law.go:156", after := #[{ on := 6, ground := Ground.data }, { on := 4, ground := Ground.guard }], guard := some (4, true) }) (v := ?_) rfl (by kernel_rfl) (by kernel_rfl) (by kernel_rfl) (fun _ _ _ h => h) (Or.inl ⟨by rfl, ?_⟩) (by assumption) ?_
                  rotate_left
                  · (intro w hSw; obtain ⟨q1, q2⟩ := HCE.out _ hSw; go_simp; first | done | (with_reducible rfl))
                  simp only [Act.put, List.setIfInBounds_toArray, List.set_cons_zero, List.set_cons_succ]
                  refine wpAnyH_take (i := 9) (oi := { dst := some 108, op := Op.move (Operand.tmp 18), type := 3, pos := "law.go:156", after := #[{ on := 4, ground := Ground.guard }], guard := some (4, true) }) (v := ?_) rfl (by kernel_rfl) (by kernel_rfl) (by kernel_rfl) (fun _ _ _ h => h) (Or.inl ⟨by rfl, ?_⟩) (by assumption) ?_
                  rotate_left
                  · (intro w hSw; go_simp; first | done | (with_reducible rfl))
                  simp only [Act.put, List.setIfInBounds_toArray, List.set_cons_zero, List.set_cons_succ]
                  refine wpAnyH_take (i := 10) (oi := { dst := some 109, op := Op.indexAddr 30 (Operand.tmp 8) (Operand.tmp 108), type := 0, pos := "law.go:156", after := #[{ on := 9, ground := Ground.data }, { on := 4, ground := Ground.guard }], guard := some (4, true) }) (v := ?_) rfl (by kernel_rfl) (by kernel_rfl) (by kernel_rfl) (fun _ _ _ h => h) (Or.inl ⟨by rfl, ?_⟩) (by assumption) ?_
                  rotate_left
                  · (intro w hSw; have l1 : (0 : Int) ≤ (i : Int) := (by omega); have l2 : (i : Int) < 2 := (by have := HLT.out; omega); have l3 : ((i : Nat) : Int).toNat = i := (by omega); go_simp; first | done | (with_reducible rfl))
                  simp only [Act.put, List.setIfInBounds_toArray, List.set_cons_zero, List.set_cons_succ]
                  refine wpAnyH_take (i := 11) (oi := { dst := some 110, op := Op.load 29 (Operand.tmp 109), type := 29, pos := "law.go:156", after := #[{ on := 10, ground := Ground.data }, { on := 4, ground := Ground.guard }], guard := some (4, true) }) (v := ?_) rfl (by kernel_rfl) (by kernel_rfl) (by kernel_rfl) (fun _ _ _ h => h) (Or.inl ⟨by rfl, ?_⟩) (by assumption) ?_
                  rotate_left
                  · (intro w hSw; obtain ⟨q1, q2⟩ := HCE.out _ hSw; go_simp; first | done | (with_reducible rfl))
                  simp only [Act.put, List.setIfInBounds_toArray, List.set_cons_zero, List.set_cons_succ]
                  refine wpAnyH_ready (rs := [8]) (by kernel_rfl) (by simp) ?_
                  refine AllReadyH.cons (o := { dst := some 107, op := Op.call { callee := Callee.value (Operand.func 9), args := #[Operand.tmp 106], argTypes := #[27] }, type := 43, pos := "law.go:156", after := #[{ on := 7, ground := Ground.data }, { on := 4, ground := Ground.chain }, { on := 4, ground := Ground.guard }], guard := some (4, true) }) rfl (fun K hK => ?_) AllReadyH.nil
                  go_simp
                  refine hLv.mono ?_
                  rintro e wB ⟨vb, rfl, SB⟩
                  have HSB := Keep.mk SB
                  refine hK.out _ _ SB.tail (fun hHeld => ?_)
                  clear hK K hLv SB
                  refine wpAnyH_ready (rs := [12]) (by kernel_rfl) (by simp) ?_
                  refine AllReadyH.cons (o := { dst := some 111, op := Op.call { callee := Callee.value (Operand.func 10), args := #[Operand.tmp 110], argTypes := #[29] }, type := 43, pos := "law.go:156", after := #[{ on := 11, ground := Ground.data }, { on := 8, ground := Ground.chain }, { on := 4, ground := Ground.guard }], guard := some (4, true) }) rfl (fun K hK => ?_) AllReadyH.nil
                  go_simp
                  refine (rLives_c w wB _ s.kb s.X s.Y HSB.out.third HBT.out.rel (by have := HBT.out.len; omega) HBT.out.ok).mono ?_
                  rintro e wC ⟨vc, rfl, SC⟩
                  have HSC := Keep.mk SC
                  refine hK.out _ _ (SC.tail.swap.tail.swap) (fun hHeld => ?_)
                  clear hK K SC HSB
                  refine wpAnyH_ready (rs := [13]) (by kernel_rfl) (by simp) ?_
                  refine AllReadyH.cons (o := { dst := some 112, op := Op.call { callee := Callee.value (Operand.func 8), args := #[Operand.tmp 107, Operand.tmp 111], argTypes := #[43, 43] }, type := 4, pos := "law.go:156", after := #[{ on := 8, ground := Ground.data }, { on := 12, ground := Ground.data }, { on := 12, ground := Ground.chain }, { on := 4, ground := Ground.guard }], guard := some (4, true) }) rfl (fun K hK => ?_) AllReadyH.nil
                  go_simp
                  refine (sam_c wC vb vc s.X.S (lvr_of (HSC.out.rowGet k2m)) (lvr_of (HSC.out.rowGet k0m)) (by have := HBT.out.ok.le; have := HBT.out.ok.m2; omega)).mono ?_
                  rintro e wD ⟨rfl, gD⟩
                  have HSD2 := Keep.mk ((HSC.out.tail.swap.tail.swap).grown gD)
                  refine hK.out _ _ HSD2.out (fun hHeld => ?_)
                  clear hK K gD HSC
                  refine wpAnyH_take (i := 14) (oi := { dst := some 113, op := Op.unOp UnOp.not 4 (Operand.tmp 112), type := 4, pos := "law.go:156", after := #[{ on := 13, ground := Ground.data }, { on := 4, ground := Ground.guard }], guard := some (4, true) }) (v := ?_) rfl (by kernel_rfl) (by kernel_rfl) (by kernel_rfl) (fun _ _ _ h => h) (Or.inl ⟨by rfl, ?_⟩) (by assumption) ?_
                  rotate_left
                  · (intro w hSw; go_simp; first | done | (with_reducible rfl))
                  simp only [Act.put, List.setIfInBounds_toArray, List.set_cons_zero, List.set_cons_succ]
                  refine wpAnyH_take (i := 15) (oi := { dst := some 114, op := Op.move (Operand.tmp 113), type := 4, pos := "law.go:156", after := #[{ on := 14, ground := Ground.data }, { on := 13, ground := Ground.chain }, { on := 4, ground := Ground.guard }], guard := some (4, true) }) (v := ?_) rfl (by kernel_rfl) (by kernel_rfl) (by kernel_rfl) (fun _ _ _ h => h) (Or.inl ⟨by rfl, ?_⟩) (by assumption) ?_
                  rotate_left
                  · (intro w hSw; go_simp; first | done | (with_reducible rfl))
                  simp only [Act.put, List.setIfInBounds_toArray, List.set_cons_zero, List.set_cons_succ]
                  refine wpAnyH_take (i := 16) (oi := { dst := some 115, op := Op.move (Operand.tmp 18), type := 3, pos := "law.go:156", after := #[{ on := 15, ground := Ground.guard }], guard := some (15, false) }) (v := ?_) rfl (by kernel_rfl) (by kernel_rfl) (by kernel_rfl) (fun _ _ _ h => h) (Or.inl ⟨by rfl, ?_⟩) (by assumption) ?_
                  rotate_left
                  · (intro w hSw; go_simp; first | done | (with_reducible rfl))
                  simp only [Act.put, List.setIfInBounds_toArray, List.set_cons_zero, List.set_cons_succ]
                  refine wpAnyH_take (i := 17) (oi := { dst := some 116, op := Op.indexAddr 28 (Operand.tmp 7) (Operand.tmp 115), type := 0, pos := "law.go:156", after := #[{ on := 16, ground := Ground.data }, { on := 15, ground := Ground.guard }], guard := some (15, false) }) (v := ?_) rfl (by kernel_rfl) (by kernel_rfl) (by kernel_rfl) (fun _ _ _ h => h) (Or.inl ⟨by rfl, ?_⟩) (by assumption) ?_
                  rotate_left
                  · (intro w hSw; have l1 : (0 : Int) ≤ (i : Int) := (by omega); have l2 : (i : Int) < 2 := (by have := HLT.out; omega); have l3 : ((i : Nat) : Int).toNat = i := (by omega); go_simp; first | done | (with_reducible rfl))
                  simp only [Act.put, List.setIfInBounds_toArray, List.set_cons_zero, List.set_cons_succ]
                  refine wpAnyH_take (i := 18) (oi := { dst := some 117, op := Op.load 27 (Operand.tmp 116), type := 27, pos := "law.go:156", after := #[{ on := 17, ground := Ground.data }, { on := 15, ground := Ground.guard }], guard := some (15, false) }) (v := ?_) rfl (by kernel_rfl) (by kernel_rfl) (by kernel_rfl) (fun _ _ _ h => h) (Or.inl ⟨by rfl, ?_⟩) (by assumption) ?_
                  rotate_left
                  · (intro w hSw; obtain ⟨q1, q2⟩ := HCE.out _ hSw; go_simp; first | done | (with_reducible rfl))
                  simp only [Act.put, List.setIfInBounds_toArray, List.set_cons_zero, List.set_cons_succ]
                  refine wpAnyH_take (i := 20) (oi := { dst := some 119, op := Op.move (Operand.tmp 18), type := 3, pos := "law.go:156", after := #[{ on := 15, ground := Ground.guard }], guard := some (15, false) }) (v := ?_) rfl (by kernel_rfl) (by kernel_rfl) (by kernel_rfl) (fun _ _ _ h => h) (Or.inl ⟨by rfl, ?_⟩) (by assumption) ?_
                  rotate_left
                  · (intro w hSw; go_simp; first | done | (with_reducible rfl))
                  simp only [Act.put, List.setIfInBounds_toArray, List.set_cons_zero, List.set_cons_succ]
                  refine wpAnyH_take (i := 21) (oi := { dst := some 120, op := Op.indexAddr 30 (Operand.tmp 8) (Operand.tmp 119), type := 0, pos := "law.go:156", after := #[{ on := 20, ground := Ground.data }, { on := 15, ground := Ground.guard }], guard := some (15, false) }) (v := ?_) rfl (by kernel_rfl) (by kernel_rfl) (by kernel_rfl) (fun _ _ _ h => h) (Or.inl ⟨by rfl, ?_⟩) (by assumption) ?_
                  rotate_left
                  · (intro w hSw; have l1 : (0 : Int) ≤ (i : Int) := (by omega); have l2 : (i : Int) < 2 := (by have := HLT.out; omega); have l3 : ((i : Nat) : Int).toNat = i := (by omega); go_simp; first | done | (with_reducible rfl))
                  simp only [Act.put, List.setIfInBounds_toArray, List.set_cons_zero, List.set_cons_succ]
                  refine wpAnyH_take (i := 22) (oi := { dst := some 121, op := Op.load 29 (Operand.tmp 120), type := 29, pos := "law.go:156", after := #[{ on := 21, ground := Ground.data }, { on := 15, ground := Ground.guard }], guard := some (15, false) }) (v := ?_) rfl (by kernel_rfl) (by kernel_rfl) (by kernel_rfl) (fun _ _ _ h => h) (Or.inl ⟨by rfl, ?_⟩) (by assumption) ?_
                  rotate_left
                  · (intro w hSw; obtain ⟨q1, q2⟩ := HCE.out _ hSw; go_simp; first | done | (with_reducible rfl))
                  simp only [Act.put, List.setIfInBounds_toArray, List.set_cons_zero, List.set_cons_succ]
                  refine wpAnyH_ready (rs := [19]) (by kernel_rfl) (by simp) ?_
                  refine AllReadyH.cons (o := { dst := some 118, op := Op.call { callee := Callee.value (Operand.func 11), args := #[Operand.tmp 117], argTypes := #[27] }, type := 38, pos := "law.go:156", after := #[{ on := 18, ground := Ground.data }, { on := 15, ground := Ground.chain }, { on := 15, ground := Ground.guard }], guard := some (15, false) }) rfl (fun K hK => ?_) AllReadyH.nil
                  go_simp
                  refine (next_c w _ _ s.lb s.X HSD2.out).mono ?_
                  rintro e wE ⟨rfl, hw⟩
                  subst hw
                  refine hK.out _ _ HSD2.out (fun hHeld => ?_)
                  clear hK K
                  refine wpAnyH_ready (rs := [23]) (by kernel_rfl) (by simp) ?_
                  refine AllReadyH.cons (o := { dst := some 122, op := Op.call { callee := Callee.value (Operand.func 12), args := #[Operand.tmp 121], argTypes := #[29] }, type := 38, pos := "law.go:156", after := #[{ on := 22, ground := Ground.data }, { on := 19, ground := Ground.chain }, { on := 15, ground := Ground.guard }], guard := some (15, false) }) rfl (fun K hK => ?_) AllReadyH.nil
                  go_simp
                  refine (rnext_c w _ _ s.kb s.X s.Y HSD2.out.swap HBT.out.rel (by have := HBT.out.len; omega)).mono ?_
                  rintro e wF ⟨rfl, hw⟩
                  subst hw
                  refine hK.out _ _ HSD2.out (fun hHeld => ?_)
                  clear hK K
                  refine wpAnyH_take (i := 24) (oi := { dst := some 123, op := Op.binOp BinOp.neq 38 (Operand.tmp 118) (Operand.tmp 122) 38, type := 4, pos := "law.go:156", after := #[{ on := 19, ground := Ground.data }, { on := 23, ground := Ground.data }, { on := 15, ground := Ground.guard }], guard := some (15, false) }) (v := ?_) rfl (by kernel_rfl) (by kernel_rfl) (by kernel_rfl) (fun _ _ _ h => h) (Or.inl ⟨by rfl, ?_⟩) (by assumption) ?_
                  rotate_left
                  · (intro w hSw; go_simp; first | done | (with_reducible rfl))
                  simp only [Act.put, List.setIfInBounds_toArray, List.set_cons_zero, List.set_cons_succ]
                  refine wpAnyH_take (i := 25) (oi := { dst := some 124, op := Op.pick (Operand.tmp 114) (Operand.const (Value.bool true)) (Operand.tmp 123), type := 4, pos := "law.go:156", after := #[{ on := 15, ground := Ground.data }, { on := 24, ground := Ground.data }, { on := 4, ground := Ground.guard }], guard := some (4, true) }) (v := ?_) rfl (by kernel_rfl) (by kernel_rfl) (by kernel_rfl) (fun _ _ _ h => h) (Or.inl ⟨by rfl, ?_⟩) (by assumption) ?_
                  rotate_left
                  · (intro w hSw; go_simp; first | done | (with_reducible rfl))
                  simp only [Act.put, List.setIfInBounds_toArray, List.set_cons_zero, List.set_cons_succ]
                  refine wpAnyH_take (i := 26) (oi := { dst := some 125, op := Op.pick (Operand.tmp 103) (Operand.tmp 124) (Operand.const (Value.bool false)), type := 4, pos := "law.go:156", after := #[{ on := 4, ground := Ground.data }, { on := 25, ground := Ground.data }], guard := none }) (v := ?_) rfl (by kernel_rfl) (by kernel_rfl) (by kernel_rfl) (fun _ _ _ h => h) (Or.inl ⟨by rfl, ?_⟩) (by assumption) ?_
                  rotate_left
                  · (intro w hSw; go_simp; first | done | (with_reducible rfl))
                  simp only [Act.put, List.setIfInBounds_toArray, List.set_cons_zero, List.set_cons_succ]
                  refine wpAnyH_done (by kernel_rfl) ?_ _
                  have HSX := Keep.mk (HBK.out _ HSD2.out)
                  clear HSD2 hHeld HCE HBK
                  go_wp2_with fail
                  go_roundw
                  case rel => exact ⟨i + 1, by omega, rfl, HSX⟩
                  case measure => simp [intOf]; omega
              · have hi1 : ¬ (i : Int) < 2 := by omega
                have HG := Keep.mk hS.out.g
                clear hS
                go_wp2_with fail
                go_ret
                exact ⟨rfl, HG.out⟩
        · have hi1 : ¬ (i : Int) < (n : Nat) := by omega
          have HI3 := Keep.mk (And.intro (hI.out.1.le hi) (hI.out.2.le hi))
          clear hI
          go_wp2_with fail
          go_loopw [18] (fun v wr => ∃ i : Nat, i ≤ 2 ∧ v = iv i ∧ Keep (Sep w wr (boxA q7 [slL s0, slL s1] 28 :: boxA q8 [slK s0, slK s1] 30 :: boxA rb cc 24 :: (slA s0 ++ slA s1)))) (fun v _ => (2 - intOf v).toNat)
          case atStart => exact ⟨0, by omega, rfl, hS⟩
          case round =>
            clear hS
            obtain ⟨i, hi, rfl, hS⟩ := hrel
            by_cases hlt : i < 2
            · have hi0 : (0 : Int) ≤ (i : Int) := by omega
              have hi1 : (i : Int) < 2 := by omega
              have hti : ((i : Nat) : Int).toNat = i := by omega
              have hwi : IntKind.i64.wrap ((i : Int) + 1) = ((i + 1 : Nat) : Int) := by rw [wi _ (by omega) (by omega)]; omega
              have HLT := Keep.mk hlt
              obtain ⟨sk, so, HSK⟩ : ∃ sk so : Option Sl, Keep ([slL s0, slL s1][i]? = some (slL sk) ∧ [slK s0, slK s1][i]? = some (slK sk) ∧ SlOk 300 sk ∧ (∀ W, Sep w W (boxA q7 [slL s0, slL s1] 28 :: boxA q8 [slK s0, slK s1] 30 :: boxA rb cc 24 :: (slA s0 ++ slA s1)) ↔ Sep w W (slA sk ++ (boxA q7 [slL s0, slL s1] 28 :: boxA q8 [slK s0, slK s1] 30 :: boxA rb cc 24 :: slA so)))) := by
                have hp : ∀ (A B C : List As), (C ++ (A ++ B)).Perm (A ++ (C ++ B)) := fun A B C => by
                  rw [← List.append_assoc, ← List.append_assoc]; exact List.Perm.append_right B List.perm_append_comm
                have hk01 : i = 0 ∨ i = 1 := by omega
                rcases hk01 with h0 | h0
                · exact ⟨s0, s1, ⟨by rw [h0]; rfl, by rw [h0]; rfl, HI3.out.1, fun W => ⟨fun h => h.perm (hp (slA s0) (slA s1) [_, _, _]), fun h => h.perm (hp (slA s0) (slA s1) [_, _, _]).symm⟩⟩⟩
                · exact ⟨s1, s0, ⟨by rw [h0]; rfl, by rw [h0]; rfl, HI3.out.2, fun W => ⟨fun h => h.perm ((List.Perm.append_left [_, _, _] List.perm_append_comm).trans (hp (slA s1) (slA s0) [_, _, _])), fun h => h.perm ((List.Perm.append_left [_, _, _] List.perm_append_comm).trans (hp (slA s1) (slA s0) [_, _, _])).symm⟩⟩⟩
              have SD := hS.out.grown (gr_drew wr none)
              cases sk with
              | none =>
                have HCN : Keep (∀ W, Sep w W (boxA q7 [slL s0, slL s1] 28 :: boxA q8 [slK s0, slK s1] 30 :: boxA rb cc 24 :: (slA s0 ++ slA s1)) → W.cell? ⟨q8, i, none⟩ = some np) := ⟨fun W h => (h.boxGet k1m).cellv _ _ HSK.out.2.1⟩
                clear HSK hS
                go_wp2_with fail
                refine wp_region_held_drew (S := fun w' => Sep w w' (boxA q7 [slL s0, slL s1] 28 :: boxA q8 [slK s0, slK s1] 30 :: boxA rb cc 24 :: (slA s0 ++ slA s1))) (by kernel_rfl) SD (fun hHeld => ?_)
                generalize wr.drew = wA0 at SD hHeld ⊢
                refine wpAnyH_take (i := 0) (oi := { dst := some 99, op := Op.move (Operand.tmp 18), type := 3, pos := "law.go:156", after := #[], guard := none }) (v := ?_) rfl (by kernel_rfl) (by kernel_rfl) (by kernel_rfl) (fun _ _ _ h => h) (Or.inl ⟨by rfl, ?_⟩) (by assumption) ?_
                rotate_left
                · (intro w hSw; go_simp; first | done | (with_reducible rfl))
                simp only [Act.put, List.setIfInBounds_toArray, List.set_cons_zero, List.set_cons_succ]
                refine wpAnyH_take (i := 1) (oi := { dst := some 100, op := Op.indexAddr 30 (Operand.tmp 8) (Operand.tmp 99), type := 0, pos := "law.go:156", after := #[{ on := 0, ground := Ground.data }], guard := none }) (v := ?_) rfl (by kernel_rfl) (by kernel_rfl) (by kernel_rfl) (fun _ _ _ h => h) (Or.inl ⟨by rfl, ?_⟩) (by assumption) ?_
                rotate_left
                · (intro w hSw; have l1 : (0 : Int) ≤ (i : Int) := (by omega); have l2 : (i : Int) < 2 := (by have := HLT.out; omega); have l3 : ((i : Nat) : Int).toNat = i := (by omega); go_simp; first | done | (with_reducible rfl))
                simp only [Act.put, List.setIfInBounds_toArray, List.set_cons_zero, List.set_cons_succ]
                refine wpAnyH_take (i := 2) (oi := { dst := some 101, op := Op.load 29 (Operand.tmp 100), type := 29, pos := "law.go:156", after := #[{ on := 1, ground := Ground.data }], guard := none }) (v := ?_) rfl (by kernel_rfl) (by kernel_rfl) (by kernel_rfl) (fun _ _ _ h => h) (Or.inl ⟨by rfl, ?_⟩) (by assumption) ?_
                rotate_left
                · (intro w hSw; have q2 := HCN.out _ hSw; go_simp; first | done | (with_reducible rfl))
                simp only [Act.put, List.setIfInBounds_toArray, List.set_cons_zero, List.set_cons_succ]
                refine wpAnyH_take (i := 3) (oi := { dst := some 102, op := Op.binOp BinOp.neq 29 (Operand.tmp 101) (Operand.const (Value.pointer none)) 29, type := 4, pos := "law.go:156", after := #[{ on := 2, ground := Ground.data }], guard := none }) (v := ?_) rfl (by kernel_rfl) (by kernel_rfl) (by kernel_rfl) (fun _ _ _ h => h) (Or.inl ⟨by rfl, ?_⟩) (by assumption) ?_
                rotate_left
                · (intro w hSw; go_simp; first | done | (with_reducible rfl))
                simp only [Act.put, List.setIfInBounds_toArray, List.set_cons_zero, List.set_cons_succ]
                refine wpAnyH_take (i := 4) (oi := { dst := some 103, op := Op.move (Operand.tmp 102), type := 4, pos := "law.go:156", after := #[{ on := 3, ground := Ground.data }], guard := none }) (v := ?_) rfl (by kernel_rfl) (by kernel_rfl) (by kernel_rfl) (fun _ _ _ h => h) (Or.inl ⟨by rfl, ?_⟩) (by assumption) ?_
                rotate_left
                · (intro w hSw; go_simp; first | done | (with_reducible rfl))
                simp only [Act.put, List.setIfInBounds_toArray, List.set_cons_zero, List.set_cons_succ]
                refine wpAnyH_take (i := 5) (oi := { dst := some 104, op := Op.move (Operand.tmp 18), type := 3, pos := "law.go:156", after := #[{ on := 4, ground := Ground.guard }], guard := some (4, true) }) (v := undef) rfl (by kernel_rfl) (by kernel_rfl) (by kernel_rfl) (fun _ _ _ h => h) (Or.inr ⟨by rfl, rfl⟩) (by assumption) ?_
                simp only [Act.put, List.setIfInBounds_toArray, List.set_cons_zero, List.set_cons_succ]
                refine wpAnyH_take (i := 6) (oi := { dst := some 105, op := Op.indexAddr 28 (Operand.tmp 7) (Operand.tmp 104), type := 0, pos := "law.go:156", after := #[{ on := 5, ground := Ground.data }, { on := 4, ground := Ground.guard }], guard := some (4, true) }) (v := undef) rfl (by kernel_rfl) (by kernel_rfl) (by kernel_rfl) (fun _ _ _ h => h) (Or.inr ⟨by rfl, rfl⟩) (by assumption) ?_
                simp only [Act.put, List.setIfInBounds_toArray, List.set_cons_zero, List.set_cons_succ]
                refine wpAnyH_take (i := 7) (oi := { dst := some 106, op := Op.load 27 (Operand.tmp 105), type := 27, pos := "law.go:156", after := #[{ on := 6, ground := Ground.data }, { on := 4, ground := Ground.guard }], guard := some (4, true) }) (v := undef) rfl (by kernel_rfl) (by kernel_rfl) (by kernel_rfl) (fun _ _ _ h => h) (Or.inr ⟨by rfl, rfl⟩) (by assumption) ?_
                simp only [Act.put, List.setIfInBounds_toArray, List.set_cons_zero, List.set_cons_succ]
                refine wpAnyH_take (i := 9) (oi := { dst := some 108, op := Op.move (Operand.tmp 18), type := 3, pos := "law.go:156", after := #[{ on := 4, ground := Ground.guard }], guard := some (4, true) }) (v := undef) rfl (by kernel_rfl) (by kernel_rfl) (by kernel_rfl) (fun _ _ _ h => h) (Or.inr ⟨by rfl, rfl⟩) (by assumption) ?_
                simp only [Act.put, List.setIfInBounds_toArray, List.set_cons_zero, List.set_cons_succ]
                refine wpAnyH_take (i := 10) (oi := { dst := some 109, op := Op.indexAddr 30 (Operand.tmp 8) (Operand.tmp 108), type := 0, pos := "law.go:156", after := #[{ on := 9, ground := Ground.data }, { on := 4, ground := Ground.guard }], guard := some (4, true) }) (v := undef) rfl (by kernel_rfl) (by kernel_rfl) (by kernel_rfl) (fun _ _ _ h => h) (Or.inr ⟨by rfl, rfl⟩) (by assumption) ?_
                simp only [Act.put, List.setIfInBounds_toArray, List.set_cons_zero, List.set_cons_succ]
                refine wpAnyH_take (i := 11) (oi := { dst := some 110, op := Op.load 29 (Operand.tmp 109), type := 29, pos := "law.go:156", after := #[{ on := 10, ground := Ground.data }, { on := 4, ground := Ground.guard }], guard := some (4, true) }) (v := undef) rfl (by kernel_rfl) (by kernel_rfl) (by kernel_rfl) (fun _ _ _ h => h) (Or.inr ⟨by rfl, rfl⟩) (by assumption) ?_
                simp only [Act.put, List.setIfInBounds_toArray, List.set_cons_zero, List.set_cons_succ]
                refine wpAnyH_take (i := 8) (oi := { dst := some 107, op := Op.call { callee := Callee.value (Operand.func 9), args := #[Operand.tmp 106], argTypes := #[27] }, type := 43, pos := "law.go:156", after := #[{ on := 7, ground := Ground.data }, { on := 4, ground := Ground.chain }, { on := 4, ground := Ground.guard }], guard := some (4, true) }) (v := undef) rfl (by kernel_rfl) (by kernel_rfl) (by kernel_rfl) (fun _ _ _ h => h) (Or.inr ⟨by rfl, rfl⟩) (by assumption) ?_
                simp only [Act.put, List.setIfInBounds_toArray, List.set_cons_zero, List.set_cons_succ]
                refine wpAnyH_take (i := 12) (oi := { dst := some 111, op := Op.call { callee := Callee.value (Operand.func 10), args := #[Operand.tmp 110], argTypes := #[29] }, type := 43, pos := "law.go:156", after := #[{ on := 11, ground := Ground.data }, { on := 8, ground := Ground.chain }, { on := 4, ground := Ground.guard }], guard := some (4, true) }) (v := undef) rfl (by kernel_rfl) (by kernel_rfl) (by kernel_rfl) (fun _ _ _ h => h) (Or.inr ⟨by rfl, rfl⟩) (by assumption) ?_
                simp only [Act.put, List.setIfInBounds_toArray, List.set_cons_zero, List.set_cons_succ]
                refine wpAnyH_take (i := 13) (oi := { dst := some 112, op := Op.call { callee := Callee.value (Operand.func 8), args := #[Operand.tmp 107, Operand.tmp 111], argTypes := #[43, 43] }, type := 4, pos := "law.go:156", after := #[{ on := 8, ground := Ground.data }, { on := 12, ground := Ground.data }, { on := 12, ground := Ground.chain }, { on := 4, ground := Ground.guard }], guard := some (4, true) }) (v := undef) rfl (by kernel_rfl) (by kernel_rfl) (by kernel_rfl) (fun _ _ _ h => h) (Or.inr ⟨by rfl, rfl⟩) (by assumption) ?_
                simp only [Act.put, List.setIfInBounds_toArray, List.set_cons_zero, List.set_cons_succ]
                refine wpAnyH_take (i := 14) (oi := { dst := some 113, op := Op.unOp UnOp.not 4 (Operand.tmp 112), type := 4, pos := "law.go:156", after := #[{ on := 13, ground := Ground.data }, { on := 4, ground := Ground.guard }], guard := some (4, true) }) (v := undef) rfl (by kernel_rfl) (by kernel_rfl) (by kernel_rfl) (fun _ _ _ h => h) (Or.inr ⟨by rfl, rfl⟩) (by assumption) ?_
                simp only [Act.put, List.setIfInBounds_toArray, List.set_cons_zero, List.set_cons_succ]
                refine wpAnyH_take (i := 15) (oi := { dst := some 114, op := Op.move (Operand.tmp 113), type := 4, pos := "law.go:156", after := #[{ on := 14, ground := Ground.data }, { on := 13, ground := Ground.chain }, { on := 4, ground := Ground.guard }], guard := some (4, true) }) (v := undef) rfl (by kernel_rfl) (by kernel_rfl) (by kernel_rfl) (fun _ _ _ h => h) (Or.inr ⟨by rfl, rfl⟩) (by assumption) ?_
                simp only [Act.put, List.setIfInBounds_toArray, List.set_cons_zero, List.set_cons_succ]
                refine wpAnyH_take (i := 16) (oi := { dst := some 115, op := Op.move (Operand.tmp 18), type := 3, pos := "law.go:156", after := #[{ on := 15, ground := Ground.guard }], guard := some (15, false) }) (v := undef) rfl (by kernel_rfl) (by kernel_rfl) (by kernel_rfl) (fun _ _ _ h => h) (Or.inr ⟨by rfl, rfl⟩) (by assumption) ?_
                simp only [Act.put, List.setIfInBounds_toArray, List.set_cons_zero, List.set_cons_succ]
                refine wpAnyH_take (i := 17) (oi := { dst := some 116, op := Op.indexAddr 28 (Operand.tmp 7) (Operand.tmp 115), type := 0, pos := "law.go:156", after := #[{ on := 16, ground := Ground.data }, { on := 15, ground := Ground.guard }], guard := some (15, false) }) (v := undef) rfl (by kernel_rfl) (by kernel_rfl) (by kernel_rfl) (fun _ _ _ h => h) (Or.inr ⟨by rfl, rfl⟩) (by assumption) ?_
                simp only [Act.put, List.setIfInBounds_toArray, List.set_cons_zero, List.set_cons_succ]
                refine wpAnyH_take (i := 18) (oi := { dst := some 117, op := Op.load 27 (Operand.tmp 116), type := 27, pos := "law.go:156", after := #[{ on := 17, ground := Ground.data }, { on := 15, ground := Ground.guard }], guard := some (15, false) }) (v := undef) rfl (by kernel_rfl) (by kernel_rfl) (by kernel_rfl) (fun _ _ _ h => h) (Or.inr ⟨by rfl, rfl⟩) (by assumption) ?_
                simp only [Act.put, List.setIfInBounds_toArray, List.set_cons_zero, List.set_cons_succ]
                refine wpAnyH_take (i := 20) (oi := { dst := some 119, op := Op.move (Operand.tmp 18), type := 3, pos := "law.go:156", after := #[{ on := 15, ground := Ground.guard }], guard := some (15, false) }) (v := undef) rfl (by kernel_rfl) (by kernel_rfl) (by kernel_rfl) (fun _ _ _ h => h) (Or.inr ⟨by rfl, rfl⟩) (by assumption) ?_
                simp only [Act.put, List.setIfInBounds_toArray, List.set_cons_zero, List.set_cons_succ]
                refine wpAnyH_take (i := 21) (oi := { dst := some 120, op := Op.indexAddr 30 (Operand.tmp 8) (Operand.tmp 119), type := 0, pos := "law.go:156", after := #[{ on := 20, ground := Ground.data }, { on := 15, ground := Ground.guard }], guard := some (15, false) }) (v := undef) rfl (by kernel_rfl) (by kernel_rfl) (by kernel_rfl) (fun _ _ _ h => h) (Or.inr ⟨by rfl, rfl⟩) (by assumption) ?_
                simp only [Act.put, List.setIfInBounds_toArray, List.set_cons_zero, List.set_cons_succ]
                refine wpAnyH_take (i := 22) (oi := { dst := some 121, op := Op.load 29 (Operand.tmp 120), type := 29, pos := "law.go:156", after := #[{ on := 21, ground := Ground.data }, { on := 15, ground := Ground.guard }], guard := some (15, false) }) (v := undef) rfl (by kernel_rfl) (by kernel_rfl) (by kernel_rfl) (fun _ _ _ h => h) (Or.inr ⟨by rfl, rfl⟩) (by assumption) ?_
                simp only [Act.put, List.setIfInBounds_toArray, List.set_cons_zero, List.set_cons_succ]
                refine wpAnyH_take (i := 19) (oi := { dst := some 118, op := Op.call { callee := Callee.value (Operand.func 11), args := #[Operand.tmp 117], argTypes := #[27] }, type := 38, pos := "law.go:156", after := #[{ on := 18, ground := Ground.data }, { on := 15, ground := Ground.chain }, { on := 15, ground := Ground.guard }], guard := some (15, false) }) (v := undef) rfl (by kernel_rfl) (by kernel_rfl) (by kernel_rfl) (fun _ _ _ h => h) (Or.inr ⟨by rfl, rfl⟩) (by assumption) ?_
                simp only [Act.put, List.setIfInBounds_toArray, List.set_cons_zero, List.set_cons_succ]
                refine wpAnyH_take (i := 23) (oi := { dst := some 122, op := Op.call { callee := Callee.value (Operand.func 12), args := #[Operand.tmp 121], argTypes := #[29] }, type := 38, pos := "law.go:156", after := #[{ on := 22, ground := Ground.data }, { on := 19, ground := Ground.chain }, { on := 15, ground := Ground.guard }], guard := some (15, false) }) (v := undef) rfl (by kernel_rfl) (by kernel_rfl) (by kernel_rfl) (fun _ _ _ h => h) (Or.inr ⟨by rfl, rfl⟩) (by assumption) ?_
                simp only [Act.put, List.setIfInBounds_toArray, List.set_cons_zero, List.set_cons_succ]
                refine wpAnyH_take (i := 24) (oi := { dst := some 123, op := Op.binOp BinOp.neq 38 (Operand.tmp 118) (Operand.tmp 122) 38, type := 4, pos := "law.go:156", after := #[{ on := 19, ground := Ground.data }, { on := 23, ground := Ground.data }, { on := 15, ground := Ground.guard }], guard := some (15, false) }) (v := undef) rfl (by kernel_rfl) (by kernel_rfl) (by kernel_rfl) (fun _ _ _ h => h) (Or.inr ⟨by rfl, rfl⟩) (by assumption) ?_
                simp only [Act.put, List.setIfInBounds_toArray, List.set_cons_zero, List.set_cons_succ]
                refine wpAnyH_take (i := 25) (oi := { dst := some 124, op := Op.pick (Operand.tmp 114) (Operand.const (Value.bool true)) (Operand.tmp 123), type := 4, pos := "law.go:156", after := #[{ on := 15, ground := Ground.data }, { on := 24, ground := Ground.data }, { on := 4, ground := Ground.guard }], guard := some (4, true) }) (v := undef) rfl (by kernel_rfl) (by kernel_rfl) (by kernel_rfl) (fun _ _ _ h => h) (Or.inr ⟨by rfl, rfl⟩) (by assumption) ?_
                simp only [Act.put, List.setIfInBounds_toArray, List.set_cons_zero, List.set_cons_succ]
                refine wpAnyH_take (i := 26) (oi := { dst := some 125, op := Op.pick (Operand.tmp 103) (Operand.tmp 124) (Operand.const (Value.bool false)), type := 4, pos := "law.go:156", after := #[{ on := 4, ground := Ground.data }, { on := 25, ground := Ground.data }], guard := none }) (v := ?_) rfl (by kernel_rfl) (by kernel_rfl) (by kernel_rfl) (fun _ _ _ h => h) (Or.inl ⟨by rfl, ?_⟩) (by assumption) ?_
                rotate_left
                · (intro w hSw; go_simp; first | done | (with_reducible rfl))
                simp only [Act.put, List.setIfInBounds_toArray, List.set_cons_zero, List.set_cons_succ]
                refine wpAnyH_done (by kernel_rfl) ?_ _
                have HSX := Keep.mk SD
                clear SD hHeld HCN
                go_wp2_with fail
                go_roundw
                case rel => exact ⟨i + 1, by omega, rfl, HSX⟩
                case measure => simp [intOf]; omega
              | some s =>
                obtain ⟨rest, hrest⟩ : ∃ rest, (boxA q7 [slL s0, slL s1] 28 :: boxA q8 [slK s0, slK s1] 30 :: boxA rb cc 24 :: slA so) = rest := ⟨_, rfl⟩
                have SD2 : Sep w wr.drew (lobA s.lb s.X :: rlobA s.kb s.Y :: rest) := by rw [← hrest]; exact (HSK.out.2.2.2 _).1 SD
                have HCE : Keep (∀ W, Sep w W (lobA s.lb s.X :: rlobA s.kb s.Y :: rest) → W.cell? ⟨q7, i, none⟩ = some (pt s.lb) ∧ W.cell? ⟨q8, i, none⟩ = some (pt s.kb)) := ⟨fun W h => by
                  rw [← hrest] at h
                  exact ⟨(h.boxGet k2m).cellv _ _ HSK.out.1, (h.boxGet k3m).cellv _ _ HSK.out.2.1⟩⟩
                have HBK : Keep (∀ W, Sep w W (lobA s.lb s.X :: rlobA s.kb s.Y :: rest) → Sep w W (boxA q7 [slL s0, slL s1] 28 :: boxA q8 [slK s0, slK s1] 30 :: boxA rb cc 24 :: (slA s0 ++ slA s1))) := ⟨fun W h => (HSK.out.2.2.2 W).2 (by rw [hrest]; exact h)⟩
                have HBT : Keep (Bt s.X s.Y) := ⟨HSK.out.2.2.1.1⟩
                clear HSK hrest hS SD
                go_wp2_with fail
                refine wp_region_held_drew (S := fun w' => Sep w w' (lobA s.lb s.X :: rlobA s.kb s.Y :: rest)) (by kernel_rfl) SD2 (fun hHeld => ?_)
                generalize wr.drew = wA0 at SD2 hHeld ⊢
                have hLv := lives_c w wA0 _ s.lb s.X SD2 HBT.out.ok HBT.out.up
                clear SD2
                refine wpAnyH_take (i := 0) (oi := { dst := some 99, op := Op.move (Operand.tmp 18), type := 3, pos := "law.go:156", after := #[], guard := none }) (v := ?_) rfl (by kernel_rfl) (by kernel_rfl) (by kernel_rfl) (fun _ _ _ h => h) (Or.inl ⟨by rfl, ?_⟩) (by assumption) ?_
                rotate_left
                · (intro w hSw; go_simp; first | done | (with_reducible rfl))
                simp only [Act.put, List.setIfInBounds_toArray, List.set_cons_zero, List.set_cons_succ]
                refine wpAnyH_take (i := 1) (oi := { dst := some 100, op := Op.indexAddr 30 (Operand.tmp 8) (Operand.tmp 99), type := 0, pos := "law.go:156", after := #[{ on := 0, ground := Ground.data }], guard := none }) (v := ?_) rfl (by kernel_rfl) (by kernel_rfl) (by kernel_rfl) (fun _ _ _ h => h) (Or.inl ⟨by rfl, ?_⟩) (by assumption) ?_
                rotate_left
                · (intro w hSw; have l1 : (0 : Int) ≤ (i : Int) := (by omega); have l2 : (i : Int) < 2 := (by have := HLT.out; omega); have l3 : ((i : Nat) : Int).toNat = i := (by omega); go_simp; first | done | (with_reducible rfl))
                simp only [Act.put, List.setIfInBounds_toArray, List.set_cons_zero, List.set_cons_succ]
                refine wpAnyH_take (i := 2) (oi := { dst := some 101, op := Op.load 29 (Operand.tmp 100), type := 29, pos := "law.go:156", after := #[{ on := 1, ground := Ground.data }], guard := none }) (v := ?_) rfl (by kernel_rfl) (by kernel_rfl) (by kernel_rfl) (fun _ _ _ h => h) (Or.inl ⟨by rfl, ?_⟩) (by assumption) ?_
                rotate_left
                · (intro w hSw; obtain ⟨q1, q2⟩ := HCE.out _ hSw; go_simp; first | done | (with_reducible rfl))
                simp only [Act.put, List.setIfInBounds_toArray, List.set_cons_zero, List.set_cons_succ]
                refine wpAnyH_take (i := 3) (oi := { dst := some 102, op := Op.binOp BinOp.neq 29 (Operand.tmp 101) (Operand.const (Value.pointer none)) 29, type := 4, pos := "law.go:156", after := #[{ on := 2, ground := Ground.data }], guard := none }) (v := ?_) rfl (by kernel_rfl) (by kernel_rfl) (by kernel_rfl) (fun _ _ _ h => h) (Or.inl ⟨by rfl, ?_⟩) (by assumption) ?_
                rotate_left
                · (intro w hSw; go_simp; first | done | (with_reducible rfl))
                simp only [Act.put, List.setIfInBounds_toArray, List.set_cons_zero, List.set_cons_succ]
                refine wpAnyH_take (i := 4) (oi := { dst := some 103, op := Op.move (Operand.tmp 102), type := 4, pos := "law.go:156", after := #[{ on := 3, ground := Ground.data }], guard := none }) (v := ?_) rfl (by kernel_rfl) (by kernel_rfl) (by kernel_rfl) (fun _ _ _ h => h) (Or.inl ⟨by rfl, ?_⟩) (by assumption) ?_
                rotate_left
                · (intro w hSw; go_simp; first | done | (with_reducible rfl))
                simp only [Act.put, List.setIfInBounds_toArray, List.set_cons_zero, List.set_cons_succ]
                refine wpAnyH_take (i := 5) (oi := { dst := some 104, op := Op.move (Operand.tmp 18), type := 3, pos := "law.go:156", after := #[{ on := 4, ground := Ground.guard }], guard := some (4, true) }) (v := ?_) rfl (by kernel_rfl) (by kernel_rfl) (by kernel_rfl) (fun _ _ _ h => h) (Or.inl ⟨by rfl, ?_⟩) (by assumption) ?_
                rotate_left
                · (intro w hSw; go_simp; first | done | (with_reducible rfl))
                simp only [Act.put, List.setIfInBounds_toArray, List.set_cons_zero, List.set_cons_succ]
                refine wpAnyH_take (i := 6) (oi := { dst := some 105, op := Op.indexAddr 28 (Operand.tmp 7) (Operand.tmp 104), type := 0, pos := "law.go:156", after := #[{ on := 5, ground := Ground.data }, { on := 4, ground := Ground.guard }], guard := some (4, true) }) (v := ?_) rfl (by kernel_rfl) (by kernel_rfl) (by kernel_rfl) (fun _ _ _ h => h) (Or.inl ⟨by rfl, ?_⟩) (by assumption) ?_
                rotate_left
                · (intro w hSw; have l1 : (0 : Int) ≤ (i : Int) := (by omega); have l2 : (i : Int) < 2 := (by have := HLT.out; omega); have l3 : ((i : Nat) : Int).toNat = i := (by omega); go_simp; first | done | (with_reducible rfl))
                simp only [Act.put, List.setIfInBounds_toArray, List.set_cons_zero, List.set_cons_succ]
                refine wpAnyH_take (i := 7) (oi := { dst := some 106, op := Op.load 27 (Operand.tmp 105), type := 27, pos := "law.go:156", after := #[{ on := 6, ground := Ground.data }, { on := 4, ground := Ground.guard }], guard := some (4, true) }) (v := ?_) rfl (by kernel_rfl) (by kernel_rfl) (by kernel_rfl) (fun _ _ _ h => h) (Or.inl ⟨by rfl, ?_⟩) (by assumption) ?_
                rotate_left
                · (intro w hSw; obtain ⟨q1, q2⟩ := HCE.out _ hSw; go_simp; first | done | (with_reducible rfl))
                simp only [Act.put, List.setIfInBounds_toArray, List.set_cons_zero, List.set_cons_succ]
                refine wpAnyH_take (i := 9) (oi := { dst := some 108, op := Op.move (Operand.tmp 18), type := 3, pos := "law.go:156", after := #[{ on := 4, ground := Ground.guard }], guard := some (4, true) }) (v := ?_) rfl (by kernel_rfl) (by kernel_rfl) (by kernel_rfl) (fun _ _ _ h => h) (Or.inl ⟨by rfl, ?_⟩) (by assumption) ?_
                rotate_left
                · (intro w hSw; go_simp; first | done | (with_reducible rfl))
                simp only [Act.put, List.setIfInBounds_toArray, List.set_cons_zero, List.set_cons_succ]
                refine wpAnyH_take (i := 10) (oi := { dst := some 109, op := Op.indexAddr 30 (Operand.tmp 8) (Operand.tmp 108), type := 0, pos := "law.go:156", after := #[{ on := 9, ground := Ground.data }, { on := 4, ground := Ground.guard }], guard := some (4, true) }) (v := ?_) rfl (by kernel_rfl) (by kernel_rfl) (by kernel_rfl) (fun _ _ _ h => h) (Or.inl ⟨by rfl, ?_⟩) (by assumption) ?_
                rotate_left
                · (intro w hSw; have l1 : (0 : Int) ≤ (i : Int) := (by omega); have l2 : (i : Int) < 2 := (by have := HLT.out; omega); have l3 : ((i : Nat) : Int).toNat = i := (by omega); go_simp; first | done | (with_reducible rfl))
                simp only [Act.put, List.setIfInBounds_toArray, List.set_cons_zero, List.set_cons_succ]
                refine wpAnyH_take (i := 11) (oi := { dst := some 110, op := Op.load 29 (Operand.tmp 109), type := 29, pos := "law.go:156", after := #[{ on := 10, ground := Ground.data }, { on := 4, ground := Ground.guard }], guard := some (4, true) }) (v := ?_) rfl (by kernel_rfl) (by kernel_rfl) (by kernel_rfl) (fun _ _ _ h => h) (Or.inl ⟨by rfl, ?_⟩) (by assumption) ?_
                rotate_left
                · (intro w hSw; obtain ⟨q1, q2⟩ := HCE.out _ hSw; go_simp; first | done | (with_reducible rfl))
                simp only [Act.put, List.setIfInBounds_toArray, List.set_cons_zero, List.set_cons_succ]
                refine wpAnyH_ready (rs := [8]) (by kernel_rfl) (by simp) ?_
                refine AllReadyH.cons (o := { dst := some 107, op := Op.call { callee := Callee.value (Operand.func 9), args := #[Operand.tmp 106], argTypes := #[27] }, type := 43, pos := "law.go:156", after := #[{ on := 7, ground := Ground.data }, { on := 4, ground := Ground.chain }, { on := 4, ground := Ground.guard }], guard := some (4, true) }) rfl (fun K hK => ?_) AllReadyH.nil
                go_simp
                refine hLv.mono ?_
                rintro e wB ⟨vb, rfl, SB⟩
                have HSB := Keep.mk SB
                refine hK.out _ _ SB.tail (fun hHeld => ?_)
                clear hK K hLv SB
                refine wpAnyH_ready (rs := [12]) (by kernel_rfl) (by simp) ?_
                refine AllReadyH.cons (o := { dst := some 111, op := Op.call { callee := Callee.value (Operand.func 10), args := #[Operand.tmp 110], argTypes := #[29] }, type := 43, pos := "law.go:156", after := #[{ on := 11, ground := Ground.data }, { on := 8, ground := Ground.chain }, { on := 4, ground := Ground.guard }], guard := some (4, true) }) rfl (fun K hK => ?_) AllReadyH.nil
                go_simp
                refine (rLives_c w wB _ s.kb s.X s.Y HSB.out.third HBT.out.rel (by have := HBT.out.len; omega) HBT.out.ok).mono ?_
                rintro e wC ⟨vc, rfl, SC⟩
                have HSC := Keep.mk SC
                refine hK.out _ _ (SC.tail.swap.tail.swap) (fun hHeld => ?_)
                clear hK K SC HSB
                refine wpAnyH_ready (rs := [13]) (by kernel_rfl) (by simp) ?_
                refine AllReadyH.cons (o := { dst := some 112, op := Op.call { callee := Callee.value (Operand.func 8), args := #[Operand.tmp 107, Operand.tmp 111], argTypes := #[43, 43] }, type := 4, pos := "law.go:156", after := #[{ on := 8, ground := Ground.data }, { on := 12, ground := Ground.data }, { on := 12, ground := Ground.chain }, { on := 4, ground := Ground.guard }], guard := some (4, true) }) rfl (fun K hK => ?_) AllReadyH.nil
                go_simp
                refine (sam_c wC vb vc s.X.S (lvr_of (HSC.out.rowGet k2m)) (lvr_of (HSC.out.rowGet k0m)) (by have := HBT.out.ok.le; have := HBT.out.ok.m2; omega)).mono ?_
                rintro e wD ⟨rfl, gD⟩
                have HSD2 := Keep.mk ((HSC.out.tail.swap.tail.swap).grown gD)
                refine hK.out _ _ HSD2.out (fun hHeld => ?_)
                clear hK K gD HSC
                refine wpAnyH_take (i := 14) (oi := { dst := some 113, op := Op.unOp UnOp.not 4 (Operand.tmp 112), type := 4, pos := "law.go:156", after := #[{ on := 13, ground := Ground.data }, { on := 4, ground := Ground.guard }], guard := some (4, true) }) (v := ?_) rfl (by kernel_rfl) (by kernel_rfl) (by kernel_rfl) (fun _ _ _ h => h) (Or.inl ⟨by rfl, ?_⟩) (by assumption) ?_
                rotate_left
                · (intro w hSw; go_simp; first | done | (with_reducible rfl))
                simp only [Act.put, List.setIfInBounds_toArray, List.set_cons_zero, List.set_cons_succ]
                refine wpAnyH_take (i := 15) (oi := { dst := some 114, op := Op.move (Operand.tmp 113), type := 4, pos := "law.go:156", after := #[{ on := 14, ground := Ground.data }, { on := 13, ground := Ground.chain }, { on := 4, ground := Ground.guard }], guard := some (4, true) }) (v := ?_) rfl (by kernel_rfl) (by kernel_rfl) (by kernel_rfl) (fun _ _ _ h => h) (Or.inl ⟨by rfl, ?_⟩) (by assumption) ?_
                rotate_left
                · (intro w hSw; go_simp; first | done | (with_reducible rfl))
                simp only [Act.put, List.setIfInBounds_toArray, List.set_cons_zero, List.set_cons_succ]
                refine wpAnyH_take (i := 16) (oi := { dst := some 115, op := Op.move (Operand.tmp 18), type := 3, pos := "law.go:156", after := #[{ on := 15, ground := Ground.guard }], guard := some (15, false) }) (v := ?_) rfl (by kernel_rfl) (by kernel_rfl) (by kernel_rfl) (fun _ _ _ h => h) (Or.inl ⟨by rfl, ?_⟩) (by assumption) ?_
                rotate_left
                · (intro w hSw; go_simp; first | done | (with_reducible rfl))
                simp only [Act.put, List.setIfInBounds_toArray, List.set_cons_zero, List.set_cons_succ]
                refine wpAnyH_take (i := 17) (oi := { dst := some 116, op := Op.indexAddr 28 (Operand.tmp 7) (Operand.tmp 115), type := 0, pos := "law.go:156", after := #[{ on := 16, ground := Ground.data }, { on := 15, ground := Ground.guard }], guard := some (15, false) }) (v := ?_) rfl (by kernel_rfl) (by kernel_rfl) (by kernel_rfl) (fun _ _ _ h => h) (Or.inl ⟨by rfl, ?_⟩) (by assumption) ?_
                rotate_left
                · (intro w hSw; have l1 : (0 : Int) ≤ (i : Int) := (by omega); have l2 : (i : Int) < 2 := (by have := HLT.out; omega); have l3 : ((i : Nat) : Int).toNat = i := (by omega); go_simp; first | done | (with_reducible rfl))
                simp only [Act.put, List.setIfInBounds_toArray, List.set_cons_zero, List.set_cons_succ]
                refine wpAnyH_take (i := 18) (oi := { dst := some 117, op := Op.load 27 (Operand.tmp 116), type := 27, pos := "law.go:156", after := #[{ on := 17, ground := Ground.data }, { on := 15, ground := Ground.guard }], guard := some (15, false) }) (v := ?_) rfl (by kernel_rfl) (by kernel_rfl) (by kernel_rfl) (fun _ _ _ h => h) (Or.inl ⟨by rfl, ?_⟩) (by assumption) ?_
                rotate_left
                · (intro w hSw; obtain ⟨q1, q2⟩ := HCE.out _ hSw; go_simp; first | done | (with_reducible rfl))
                simp only [Act.put, List.setIfInBounds_toArray, List.set_cons_zero, List.set_cons_succ]
                refine wpAnyH_take (i := 20) (oi := { dst := some 119, op := Op.move (Operand.tmp 18), type := 3, pos := "law.go:156", after := #[{ on := 15, ground := Ground.guard }], guard := some (15, false) }) (v := ?_) rfl (by kernel_rfl) (by kernel_rfl) (by kernel_rfl) (fun _ _ _ h => h) (Or.inl ⟨by rfl, ?_⟩) (by assumption) ?_
                rotate_left
                · (intro w hSw; go_simp; first | done | (with_reducible rfl))
                simp only [Act.put, List.setIfInBounds_toArray, List.set_cons_zero, List.set_cons_succ]
                refine wpAnyH_take (i := 21) (oi := { dst := some 120, op := Op.indexAddr 30 (Operand.tmp 8) (Operand.tmp 119), type := 0, pos := "law.go:156", after := #[{ on := 20, ground := Ground.data }, { on := 15, ground := Ground.guard }], guard := some (15, false) }) (v := ?_) rfl (by kernel_rfl) (by kernel_rfl) (by kernel_rfl) (fun _ _ _ h => h) (Or.inl ⟨by rfl, ?_⟩) (by assumption) ?_
                rotate_left
                · (intro w hSw; have l1 : (0 : Int) ≤ (i : Int) := (by omega); have l2 : (i : Int) < 2 := (by have := HLT.out; omega); have l3 : ((i : Nat) : Int).toNat = i := (by omega); go_simp; first | done | (with_reducible rfl))
                simp only [Act.put, List.setIfInBounds_toArray, List.set_cons_zero, List.set_cons_succ]
                refine wpAnyH_take (i := 22) (oi := { dst := some 121, op := Op.load 29 (Operand.tmp 120), type := 29, pos := "law.go:156", after := #[{ on := 21, ground := Ground.data }, { on := 15, ground := Ground.guard }], guard := some (15, false) }) (v := ?_) rfl (by kernel_rfl) (by kernel_rfl) (by kernel_rfl) (fun _ _ _ h => h) (Or.inl ⟨by rfl, ?_⟩) (by assumption) ?_
                rotate_left
                · (intro w hSw; obtain ⟨q1, q2⟩ := HCE.out _ hSw; go_simp; first | done | (with_reducible rfl))
                simp only [Act.put, List.setIfInBounds_toArray, List.set_cons_zero, List.set_cons_succ]
                refine wpAnyH_ready (rs := [19]) (by kernel_rfl) (by simp) ?_
                refine AllReadyH.cons (o := { dst := some 118, op := Op.call { callee := Callee.value (Operand.func 11), args := #[Operand.tmp 117], argTypes := #[27] }, type := 38, pos := "law.go:156", after := #[{ on := 18, ground := Ground.data }, { on := 15, ground := Ground.chain }, { on := 15, ground := Ground.guard }], guard := some (15, false) }) rfl (fun K hK => ?_) AllReadyH.nil
                go_simp
                refine (next_c w _ _ s.lb s.X HSD2.out).mono ?_
                rintro e wE ⟨rfl, hw⟩
                subst hw
                refine hK.out _ _ HSD2.out (fun hHeld => ?_)
                clear hK K
                refine wpAnyH_ready (rs := [23]) (by kernel_rfl) (by simp) ?_
                refine AllReadyH.cons (o := { dst := some 122, op := Op.call { callee := Callee.value (Operand.func 12), args := #[Operand.tmp 121], argTypes := #[29] }, type := 38, pos := "law.go:156", after := #[{ on := 22, ground := Ground.data }, { on := 19, ground := Ground.chain }, { on := 15, ground := Ground.guard }], guard := some (15, false) }) rfl (fun K hK => ?_) AllReadyH.nil
                go_simp
                refine (rnext_c w _ _ s.kb s.X s.Y HSD2.out.swap HBT.out.rel (by have := HBT.out.len; omega)).mono ?_
                rintro e wF ⟨rfl, hw⟩
                subst hw
                refine hK.out _ _ HSD2.out (fun hHeld => ?_)
                clear hK K
                refine wpAnyH_take (i := 24) (oi := { dst := some 123, op := Op.binOp BinOp.neq 38 (Operand.tmp 118) (Operand.tmp 122) 38, type := 4, pos := "law.go:156", after := #[{ on := 19, ground := Ground.data }, { on := 23, ground := Ground.data }, { on := 15, ground := Ground.guard }], guard := some (15, false) }) (v := ?_) rfl (by kernel_rfl) (by kernel_rfl) (by kernel_rfl) (fun _ _ _ h => h) (Or.inl ⟨by rfl, ?_⟩) (by assumption) ?_
                rotate_left
                · (intro w hSw; go_simp; first | done | (with_reducible rfl))
                simp only [Act.put, List.setIfInBounds_toArray, List.set_cons_zero, List.set_cons_succ]
                refine wpAnyH_take (i := 25) (oi := { dst := some 124, op := Op.pick (Operand.tmp 114) (Operand.const (Value.bool true)) (Operand.tmp 123), type := 4, pos := "law.go:156", after := #[{ on := 15, ground := Ground.data }, { on := 24, ground := Ground.data }, { on := 4, ground := Ground.guard }], guard := some (4, true) }) (v := ?_) rfl (by kernel_rfl) (by kernel_rfl) (by kernel_rfl) (fun _ _ _ h => h) (Or.inl ⟨by rfl, ?_⟩) (by assumption) ?_
                rotate_left
                · (intro w hSw; go_simp; first | done | (with_reducible rfl))
                simp only [Act.put, List.setIfInBounds_toArray, List.set_cons_zero, List.set_cons_succ]
                refine wpAnyH_take (i := 26) (oi := { dst := some 125, op := Op.pick (Operand.tmp 103) (Operand.tmp 124) (Operand.const (Value.bool false)), type := 4, pos := "law.go:156", after := #[{ on := 4, ground := Ground.data }, { on := 25, ground := Ground.data }], guard := none }) (v := ?_) rfl (by kernel_rfl) (by kernel_rfl) (by kernel_rfl) (fun _ _ _ h => h) (Or.inl ⟨by rfl, ?_⟩) (by assumption) ?_
                rotate_left
                · (intro w hSw; go_simp; first | done | (with_reducible rfl))
                simp only [Act.put, List.setIfInBounds_toArray, List.set_cons_zero, List.set_cons_succ]
                refine wpAnyH_done (by kernel_rfl) ?_ _
                have HSX := Keep.mk (HBK.out _ HSD2.out)
                clear HSD2 hHeld HCE HBK
                go_wp2_with fail
                go_roundw
                case rel => exact ⟨i + 1, by omega, rfl, HSX⟩
                case measure => simp [intOf]; omega
            · have hi1 : ¬ (i : Int) < 2 := by omega
              have HG := Keep.mk hS.out.g
              clear hS
              go_wp2_with fail
              go_ret
              exact ⟨rfl, HG.out⟩
end Go.Proofs.YtplcicbpkbamnabGreatDoor.Lo

