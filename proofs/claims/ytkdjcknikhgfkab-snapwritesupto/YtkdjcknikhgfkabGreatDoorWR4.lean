import Derived.Test.YtkdjcknikhgfkabGreatDoorWR3
import Derived.Test.YtkdjcknikhgfkabGreatDoorWF2
import Derived.Test.YtkdjcknikhgfkabGreatDoorX26
/- the reference's Make; SnapWrites' walk -/
namespace Go.Proofs.YtkdjcknikhgfkabGreatDoor.Pk.Sn
open Go Go.RowKit

theorem fin_none (V : Vw) (n : Nat) (st : WS) (h : 255 < n) (h2 : n < 9223372036854775808) : laySn V.S (wNum st (u64 (n : Int)) 1) = none := by
  have e : wNum st (u64 (n : Int)) 1 = none := wNum_big st (u64 (n : Int)) 1 1 rfl (by unfold u64; omega)
  rw [e, laySn_none]
theorem wrV_is (V : Vw) (ho : V.ok) : wrV V = ((wrS V).getD [], werr (wrS V)) := by
  unfold wrV
  by_cases h : 255 < V.S.length
  · rw [if_pos h]
    have h2 : V.S.length < 9223372036854775808 := by
      have q := ho.h.2.2.2.2.2.2.2.2.2.2.2.2.2.2.2.1.2
      have q : (V.S.length : Int) < 9223372036854775808 := q
      omega
    have e : wrS V = none := by
      obtain ⟨t, p, nm, a0, a1, a2, a3, a4, a5, a6, a7, a8, a9, a10, a11, S⟩ := V
      exact fin_none ⟨t, p, nm, a0, a1, a2, a3, a4, a5, a6, a7, a8, a9, a10, a11, S⟩ S.length _ h h2
    rw [e]
    rfl
  · rw [if_neg h]
set_option maxHeartbeats 8000000 in
set_option maxRecDepth 100000 in
theorem rwrite_c (V : Vw) (a : Option Addr) (c : Nat) (w : World) (ho : V.ok) (hr : SeenR w a V.S) :
    Calls Tryz.prog 6 #[.agg (V.cs a c).toArray] w fun e w' => e = .returned (.tuple #[.string ⟨(wrV V).1.toArray⟩, iv (wrV V).2]) ∧ w.grownBy w' none := by
  rw [wrV_is V ho]
  obtain ⟨⟨h1, h2, h3, b0, b1, b2, b3, b4, b5, b6, b7, b8, b9, b10, b11, h4, _⟩, hs⟩ := ho
  obtain ⟨t, p, nm, a0, a1, a2, a3, a4, a5, a6, a7, a8, a9, a10, a11, S⟩ := V
  have h1 : 0 ≤ t ∧ t < 18446744073709551616 := h1
  obtain ⟨T1, rfl⟩ : ∃ T : Nat, t = (T : Int) := ⟨t.toNat, by omega⟩
  have h4 : (S.length : Int) < 9223372036854775808 := h4.2
  exact rwrite_in T1 p nm a0 a1 a2 a3 a4 a5 a6 a7 a8 a9 a10 a11 S a c S.length _ _ _ _ _ w (by omega) h2 h3
    (fun i x hx => by
      have hm := List.mem_of_getElem? hx
      simp only [List.mem_cons, List.not_mem_nil, or_false] at hm
      rcases hm with rfl | rfl | rfl | rfl | rfl | rfl | rfl | rfl | rfl | rfl | rfl | rfl <;> assumption) hs rfl (by omega) hr rfl rfl rfl rfl rfl
set_option maxHeartbeats 8000000 in
set_option maxRecDepth 100000 in
theorem rmake_c (ses seq : Nat) (V : Vw) (a : Option Addr) (c : Nat) (key : ByteArray) (w : World) (h1 : ses < 18446744073709551616) (h2 : seq < 18446744073709551616) (ho : V.ok) (hr : SeenR w a V.S) (hk : RK w ∧ 4 ≤ w.heap.size) (hkey : key.size ≤ 1048576) :
    Calls Tryz.prog 8 #[.int .u64 (ses : Int), .int .u64 (seq : Int), .agg (V.cs a c).toArray, .string key] w fun e w' => e = .returned (.tuple #[.string (mkS ses seq V key).1, .int .i64 (mkS ses seq V key).2]) ∧ w.grownBy w' none := by
  obtain ⟨d, hd, hrw⟩ := underV
  obtain ⟨M, hM⟩ : ∃ q, mkS ses seq V key = q := ⟨_, rfl⟩
  rw [hM]
  obtain ⟨w0, hw0⟩ : ∃ q, w.alloc (.cells (V.cs a c).toArray 29) = q := ⟨_, rfl⟩
  obtain ⟨h0, g0, s0⟩ := hasN hw0
  have HW := Keep.mk (rwrite_c V a c w0 ho (hr.kept g0))
  obtain ⟨W, hW⟩ : ∃ q, wrV V = q := ⟨_, rfl⟩
  have hWl := wrV_len ho
  unfold mkS at hM
  rw [hW] at HW hM hWl
  have HG := Keep.mk (And.intro h0 (And.intro g0 (And.intro hk (And.intro hkey (And.intro h1 (And.intro h2 (And.intro hWl hM)))))))
  have hcs : (V.cs a c).toArray = #[uv V.t, iv V.p, .string V.n, iv V.x, iv V.y, iv V.u, iv V.v, iv V.h, iv V.he, iv V.en, iv V.am, iv V.co, iv V.wt, iv V.sp, iv V.sc, .slice a V.S.length c] := rfl
  have HCS := Keep.mk hcs
  rw [hcs] at hw0 ⊢
  clear h0 g0 s0 hr hk hkey h1 h2 ho hWl hM hW hcs
  go_enter Tryz.func8, Tryz.ntmps8
  go_wp2_with (first
    | (with_reducible show wpList _ _ _ ({ dst := _, op := Op.load 29 _, type := _, pos := _, after := _, guard := _ } :: _) _ _
       refine load_g rfl 29 _ rfl w.heap.size 0 rfl (V.cs a c) d HG.out.1.range hd hrw infoV ?_
       go_wp2_with fail))
  refine HW.out.mono ?_
  rintro e w1 ⟨rfl, g1⟩
  have HG1 := Keep.mk (HG.out.2.1.trans g1)
  clear HW g1
  obtain ⟨cd, hcd⟩ : ∃ q, W.2 = q := ⟨_, rfl⟩
  have HC := Keep.mk hcd
  rw [hcd]
  clear hcd
  by_cases hz : cd = 0
  · have hq : (cd == 0) = true := by simp [hz]
    have HZ := Keep.mk hz
    have HSL := Keep.mk (rseal_c (mkD ses seq (ba W.1)) key rfl (mk_fine _ HG.out.2.2.2.2.1 HG.out.2.2.2.2.2.1) (mk_small _ (by rw [ba_size]; have := HG.out.2.2.2.2.2.2.1; omega)) w1 (HG.out.2.2.1.1.kept HG1.out) (Nat.le_trans HG.out.2.2.1.2 HG1.out.size) HG.out.2.2.2.1)
    have HMM : Keep (sealD (mkD ses seq (ba W.1)) key = M) := by
      have h := HG.out.2.2.2.2.2.2.2
      rw [HC.out, if_pos hz] at h
      exact ⟨h⟩
    have HB := Keep.mk (builtD ses seq (ba W.1))
    unfold dv at HSL
    rw [HMM.out] at HSL
    clear hz
    go_wp2_with (first
      | (with_reducible show wpList _ _ _ ({ dst := _, op := Op.build 67 _, type := _, pos := _, after := _, guard := _ } :: _) _ _
         refine wpList_build rfl 67 _ rfl _ ((congrArg (Tryz.prog.built 67) (by simp only [List.map_toArray, List.map_cons, List.map_nil]; rfl)).trans HB.out) ?_
         go_wp2_with fail))
    refine HSL.out.mono ?_
    rintro e w2 ⟨rfl, g2⟩
    have HG2 := Keep.mk (HG1.out.trans g2)
    clear g2 HSL
    go_wp2_with fail
    go_ret2
    exact ⟨rfl, HG2.out⟩
  · have hq : (cd == 0) = false := by simp [hz]
    have hq2 : (cd != 0) = true := by simp [hz]
    have HMM : Keep ((nob, cd) = M) := by
      have h := HG.out.2.2.2.2.2.2.2
      rw [HC.out, if_neg hz] at h
      exact ⟨h⟩
    clear hz
    go_wp2_with fail
    go_ret2
    exact ⟨by rw [← HMM.out]; rfl, HG1.out⟩
set_option maxHeartbeats 8000000 in
set_option maxRecDepth 100000 in
theorem snapWrites_c (V : Vw) (a : Option Addr) (c ses seq : Nat) (key : ByteArray) (w : World) (hk : Kc w) (hr : RK w) (h4 : 4 ≤ w.heap.size) (ho : V.ok) (hs : SeenR w a V.S) (h1 : ses < 18446744073709551616) (h2 : seq < 18446744073709551616) (hkey : key.size ≤ 1048576) :
    Calls Tryz.prog 3 #[.agg (V.cs a c).toArray, .agg #[.int .u64 (ses : Int), .int .u64 (seq : Int)], .string key] w fun e w' => e = .returned (.bool true) ∧ w.grownBy w' none := by
  obtain ⟨d, hd, hrw⟩ := underV
  obtain ⟨w0, hw0⟩ : ∃ q, w.alloc (.cells (V.cs a c).toArray 29) = q := ⟨_, rfl⟩
  obtain ⟨w1, hw1⟩ : ∃ q, w0.alloc (.cells #[.int .u64 (ses : Int), .int .u64 (seq : Int)] 30) = q := ⟨_, rfl⟩
  have HB : Keep (w.grownBy w1 none ∧ Has w1 w.heap.size (V.cs a c) 29 ∧ Has w1 w0.heap.size [.int .u64 (ses : Int), .int .u64 (seq : Int)] 30) := by
    have x1 : Has w0 w.heap.size (V.cs a c) 29 := by rw [← hw0]; exact Has.new w _ 29
    have x2 : Has w1 w0.heap.size [.int .u64 (ses : Int), .int .u64 (seq : Int)] 30 := by rw [← hw1]; exact Has.newA w0 _ 30
    exact ⟨by rw [← hw1, ← hw0]; exact (World.grownBy_alloc _ _ _).trans (World.grownBy_alloc _ _ _), by rw [← hw1]; exact x1.alloc _, x2⟩
  have HK := Keep.mk (And.intro hk (And.intro hr (And.intro h4 (And.intro ho (And.intro hs (And.intro h1 (And.intro h2 hkey)))))))
  obtain ⟨X, hX⟩ : ∃ q, wrV V = q := ⟨_, rfl⟩
  obtain ⟨M, hM⟩ : ∃ q, mkS ses seq V key = q := ⟨_, rfl⟩
  have hcs : (V.cs a c).toArray = #[uv V.t, iv V.p, .string V.n, iv V.x, iv V.y, iv V.u, iv V.v, iv V.h, iv V.he, iv V.en, iv V.am, iv V.co, iv V.wt, iv V.sp, iv V.sc, .slice a V.S.length c] := rfl
  have HX := Keep.mk (And.intro hX (And.intro hM hcs))
  rw [hcs] at hw0 ⊢
  obtain ⟨xs, hxs⟩ : ∃ q, (⟨X.1.toArray⟩ : ByteArray) = q := ⟨_, rfl⟩
  have HXS := Keep.mk hxs
  have e2 : (X.2 == X.2) = true := by simp
  have e4 : (M.2 == M.2) = true := by simp
  clear hk hr h4 ho hs h1 h2 hkey hX hM hcs hxs
  go_enter Tryz.func3, Tryz.ntmps3
  go_wp2_with fail
  refine (alive_c w1 (HK.out.1.kept HB.out.1 (by simp))).mono ?_
  rintro e w2 ⟨rfl, g⟩
  have HB2 : Keep (w.grownBy w2 none ∧ Has w2 w.heap.size (V.cs a c) 29 ∧ Has w2 w0.heap.size [.int .u64 (ses : Int), .int .u64 (seq : Int)] 30) := ⟨HB.out.1.trans g, HB.out.2.1.kept g (by simp), HB.out.2.2.kept g (by simp)⟩
  clear g hw0 hw1
  go_wp2_with (first
    | (with_reducible show wpList _ _ _ ({ dst := _, op := Op.load 29 (Operand.tmp 3), type := _, pos := _, after := _, guard := _ } :: _) _ _
       refine load_g rfl 29 _ rfl w.heap.size 0 rfl (V.cs a c) d (HB2.out.2.1).range hd hrw infoV ?_))
  have C3 := write_c V a c w2 HK.out.2.2.2.1 (HK.out.2.2.2.2.1.kept HB2.out.1)
  rw [HX.out.1, HXS.out] at C3
  refine C3.mono ?_
  rintro e w3 ⟨rfl, g⟩
  have HB3 : Keep (w.grownBy w3 none ∧ Has w3 w.heap.size (V.cs a c) 29 ∧ Has w3 w0.heap.size [.int .u64 (ses : Int), .int .u64 (seq : Int)] 30) := ⟨HB2.out.1.trans g, HB2.out.2.1.kept g (by simp), HB2.out.2.2.kept g (by simp)⟩
  clear g C3
  go_wp2_with (first
    | (with_reducible show wpList _ _ _ ({ dst := _, op := Op.load 29 (Operand.tmp 3), type := _, pos := _, after := _, guard := _ } :: _) _ _
       refine load_g rfl 29 _ rfl w.heap.size 0 rfl (V.cs a c) d (HB3.out.2.1).range hd hrw infoV ?_))
  have C4 := rwrite_c V a c w3 HK.out.2.2.2.1 (HK.out.2.2.2.2.1.kept HB3.out.1)
  rw [HX.out.1, HXS.out] at C4
  refine C4.mono ?_
  rintro e w4 ⟨rfl, g⟩
  have HB4 : Keep (w.grownBy w4 none ∧ Has w4 w.heap.size (V.cs a c) 29 ∧ Has w4 w0.heap.size [.int .u64 (ses : Int), .int .u64 (seq : Int)] 30) := ⟨HB3.out.1.trans g, HB3.out.2.1.kept g (by simp), HB3.out.2.2.kept g (by simp)⟩
  clear g C4
  have u4 : w4.cell? ⟨w0.heap.size, 0, none⟩ = some (.int .u64 (ses : Int)) := HB4.out.2.2.cellv 0 _ rfl
  have v4 : w4.cell? ⟨w0.heap.size, 1, none⟩ = some (.int .u64 (seq : Int)) := HB4.out.2.2.cellv 1 _ rfl
  go_wp2_with (first
    | (with_reducible show wpList _ _ _ ({ dst := _, op := Op.load 29 (Operand.tmp 3), type := _, pos := _, after := _, guard := _ } :: _) _ _
       refine load_g rfl 29 _ rfl w.heap.size 0 rfl (V.cs a c) d (HB4.out.2.1).range hd hrw infoV ?_))
  have C5 := make_c ses seq V a c key w4 HK.out.2.2.2.2.2.1 HK.out.2.2.2.2.2.2.1 HK.out.2.2.2.1 (HK.out.2.2.2.2.1.kept HB4.out.1) (HK.out.1.kept HB4.out.1 (by simp)) (by have := HK.out.2.2.2.2.2.2.2; omega)
  rw [HX.out.2.1] at C5
  refine C5.mono ?_
  rintro e w5 ⟨rfl, g⟩
  have HB5 : Keep (w.grownBy w5 none ∧ Has w5 w.heap.size (V.cs a c) 29 ∧ Has w5 w0.heap.size [.int .u64 (ses : Int), .int .u64 (seq : Int)] 30) := ⟨HB4.out.1.trans g, HB4.out.2.1.kept g (by simp), HB4.out.2.2.kept g (by simp)⟩
  clear g C5
  have u5 : w5.cell? ⟨w0.heap.size, 0, none⟩ = some (.int .u64 (ses : Int)) := HB5.out.2.2.cellv 0 _ rfl
  have v5 : w5.cell? ⟨w0.heap.size, 1, none⟩ = some (.int .u64 (seq : Int)) := HB5.out.2.2.cellv 1 _ rfl
  go_wp2_with (first
    | (with_reducible show wpList _ _ _ ({ dst := _, op := Op.load 29 (Operand.tmp 3), type := _, pos := _, after := _, guard := _ } :: _) _ _
       refine load_g rfl 29 _ rfl w.heap.size 0 rfl (V.cs a c) d (HB5.out.2.1).range hd hrw infoV ?_))
  have C6 := rmake_c ses seq V a c key w5 HK.out.2.2.2.2.2.1 HK.out.2.2.2.2.2.2.1 HK.out.2.2.2.1 (HK.out.2.2.2.2.1.kept HB5.out.1) ⟨HK.out.2.1.kept HB5.out.1, Nat.le_trans HK.out.2.2.1 HB5.out.1.size⟩ HK.out.2.2.2.2.2.2.2
  rw [HX.out.2.1] at C6
  refine C6.mono ?_
  rintro e w6 ⟨rfl, g⟩
  have HB6 : Keep (w.grownBy w6 none ∧ Has w6 w.heap.size (V.cs a c) 29 ∧ Has w6 w0.heap.size [.int .u64 (ses : Int), .int .u64 (seq : Int)] 30) := ⟨HB5.out.1.trans g, HB5.out.2.1.kept g (by simp), HB5.out.2.2.kept g (by simp)⟩
  clear g C6
  go_wp2_with fail
  go_ret
  exact ⟨rfl, HB6.out.1⟩
end Go.Proofs.YtkdjcknikhgfkabGreatDoor.Pk.Sn
