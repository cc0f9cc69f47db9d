import Derived.Test.YtkdjcknikhgfkabGreatDoorX35
import Derived.Test.YtkdjcknikhgfkabGreatDoorX21
import Derived.Test.YtkdjcknikhgfkabGreatDoorFE3
import Derived.Test.YtkdjcknikhgfkabGreatDoorX24
namespace Go.Proofs.YtkdjcknikhgfkabGreatDoor.Pk.Sn
open Go Go.RowKit

/-- a snapshot as a datagram -/
def mkD (ses seq : Nat) (b : ByteArray) : Dg := { Dg.zero 6 with session := ses, seq := seq, data := b }
/-- what Make answers -/
def mkS (ses seq : Nat) (V : Vw) (key : ByteArray) : ByteArray × Int := if (wrV V).2 = 0 then sealD (mkD ses seq (ba (wrV V).1)) key else (nob, (wrV V).2)
/-- what unseal answers -/
def unS (s key : ByteArray) : Dg × Int := if (dec (sl s)).2 = 0 then (if (dec (sl s)).1.kind = 6 then (if sealed s key then ((dec (sl s)).1, 0) else (Dg.zero 0, 124)) else (Dg.zero 0, 71)) else (Dg.zero 0, (dec (sl s)).2)
/-- what Open answers -/
def opS (s key : ByteArray) : Nat × Nat × Vw × Int := if (unS s key).2 = 0 then (if (rdV (sl (unS s key).1.data)).2 = 0 then ((unS s key).1.session, (unS s key).1.seq, (rdV (sl (unS s key).1.data)).1, 0) else (0, 0, Vw.zero, (rdV (sl (unS s key).1.data)).2)) else (0, 0, Vw.zero, (unS s key).2)
set_option maxRecDepth 100000 in
theorem builtD (a b : Int) (s : ByteArray) : Tryz.prog.built 67 [(0, .int .i64 6), (5, .int .u64 a), (8, .int .u64 b), (10, .string s)] = some #[.int .i64 6, .string { data := #[] }, .int .u64 0, .string { data := #[] }, .string { data := #[] }, .int .u64 a, .int .i64 0, .string { data := #[] }, .int .u64 b, .int .i64 0, .int .i64 0, .bool false, .bool false, .string s, .string { data := #[] }] := by kernel_rfl
set_option maxRecDepth 100000 in
theorem builtD0 : Tryz.prog.built 67 [] = some #[.int .i64 0, .string { data := #[] }, .int .u64 0, .string { data := #[] }, .string { data := #[] }, .int .u64 0, .int .i64 0, .string { data := #[] }, .int .u64 0, .int .i64 0, .int .i64 0, .bool false, .bool false, .string { data := #[] }, .string { data := #[] }] := by kernel_rfl
theorem dg_one (d : Dg) : ∀ v ∈ d.cells, v.oneCell' = true := by
  intro v hv
  simp only [Dg.cells, List.mem_cons, List.not_mem_nil, or_false] at hv
  rcases hv with rfl | rfl | rfl | rfl | rfl | rfl | rfl | rfl | rfl | rfl | rfl | rfl | rfl | rfl | rfl <;> rfl
/-- a value of many cells is laid into a new block -/
theorem st_new {ops : Array Oper} {rest : List Oper} {op : Oper} {a : Act} {Q : Exit → Act → World → Prop} (w3 : World) (cs : List Value) (T : TypeId) {A : Array Value} (hgd : op.guard = none) {x y : Operand} (ho : op.op = .store T x y)
    (hx : a.eval x = .pointer (some ⟨w3.heap.size, 0, none⟩)) (hy : a.eval y = .agg cs.toArray) (hA : A.size = cs.length) (hi : (Tryz.prog.info? T).map (·.size) = some cs.length) (h1 : ∀ v ∈ cs, v.oneCell' = true)
    (h : ∀ w6, Has w6 w3.heap.size cs T → w3.grownBy w6 none → wpList Tryz.prog ops Q rest (a.put op.dst undef) w6) : wpList Tryz.prog ops Q (op :: rest) a (w3.alloc (.cells A T)) := by
  have e : A.toList.length = cs.length := by rw [Array.length_toList]; exact hA
  have hn := Has.newA w3 A T
  have hg : w3.grownBy ((w3.alloc (.cells A T)).setCells w3.heap.size 0 cs.toArray.toList) none := gr_new (World.grownBy_alloc _ _ _) (gr_sets _ _ _ _) (Nat.le_refl _)
  refine wpList_store_mid hgd T x y ho w3.heap.size 0 cs.toArray hx hy (hn.there 0 cs.toArray.size (by rw [e, List.size_toArray]; omega)) (by rw [List.size_toArray]; exact hi) (all_oneCell_toArray h1) ?_
  exact h _ (hn.setAll cs e.symm) hg
theorem wrV_len {V : Vw} (h : V.ok) : (wrV V).1.length ≤ 7000 := by
  by_cases hf : fitV V
  · rw [wrV_yes h hf]
    show (encV V).length ≤ 7000
    rw [encV_len]
    have h1 := fit_cnt hf.h
    have h2 : (sl V.n).length < 256 := hf.h.2.2.1
    rw [sl_len] at h2
    omega
  · rw [wrV_no h hf]; simp
theorem mk_fine {ses seq : Nat} (b : ByteArray) (h1 : ses < 18446744073709551616) (h2 : seq < 18446744073709551616) : (mkD ses seq b).fine := ⟨by show (-9223372036854775808 : Int) ≤ 6 ∧ (6 : Int) < 9223372036854775808; omega, by show 0 < 18446744073709551616; omega, h1, by show (-9223372036854775808 : Int) ≤ 0 ∧ (0 : Int) < 9223372036854775808; omega, h2, by show (-9223372036854775808 : Int) ≤ 0 ∧ (0 : Int) < 9223372036854775808; omega, by show (-9223372036854775808 : Int) ≤ 0 ∧ (0 : Int) < 9223372036854775808; omega⟩
theorem mk_small {ses seq : Nat} (b : ByteArray) (h : b.size ≤ 1099511627776) : (mkD ses seq b).small := ⟨by show (0 : Nat) ≤ _; omega, by show (0 : Nat) ≤ _; omega, by show (0 : Nat) ≤ _; omega, by show (0 : Nat) ≤ _; omega, h, by show (0 : Nat) ≤ _; omega⟩
set_option maxHeartbeats 8000000 in
set_option maxRecDepth 100000 in
theorem make_c (ses seq : Nat) (V : Vw) (a : Option Addr) (c : Nat) (key : ByteArray) (w : World) (h1 : ses < 18446744073709551616) (h2 : seq < 18446744073709551616) (ho : V.ok) (hr : SeenR w a V.S) (hk : Kc w) (hkey : key.size ≤ 2305843009213693952) :
    Calls Tryz.prog 7 #[.int .u64 (ses : Int), .int .u64 (seq : Int), .agg (V.cs a c).toArray, .string key] w fun e w' => e = .returned (.tuple #[.string (mkS ses seq V key).1, .int .i64 (mkS ses seq V key).2]) ∧ w.grownBy w' none := by
  obtain ⟨d, hd, hrw⟩ := underV
  obtain ⟨M, hM⟩ : ∃ q, mkS ses seq V key = q := ⟨_, rfl⟩
  rw [hM]
  obtain ⟨w0, hw0⟩ : ∃ q, w.alloc (.cells (V.cs a c).toArray 29) = q := ⟨_, rfl⟩
  obtain ⟨h0, g0, s0⟩ := hasN hw0
  have HW := Keep.mk (write_c V a c w0 ho (hr.kept g0))
  obtain ⟨W, hW⟩ : ∃ q, wrV V = q := ⟨_, rfl⟩
  have hWl := wrV_len ho
  unfold mkS at hM
  rw [hW] at HW hM hWl
  have HG := Keep.mk (And.intro h0 (And.intro g0 (And.intro hk (And.intro hkey (And.intro h1 (And.intro h2 (And.intro hWl hM)))))))
  have hcs : (V.cs a c).toArray = #[uv V.t, iv V.p, .string V.n, iv V.x, iv V.y, iv V.u, iv V.v, iv V.h, iv V.he, iv V.en, iv V.am, iv V.co, iv V.wt, iv V.sp, iv V.sc, .slice a V.S.length c] := rfl
  have HCS := Keep.mk hcs
  rw [hcs] at hw0 ⊢
  clear h0 g0 s0 hr hk hkey h1 h2 ho hWl hM hW hcs
  go_enter Tryz.func7, Tryz.ntmps7
  go_wp2_with (first
    | (with_reducible show wpList _ _ _ ({ dst := _, op := Op.load 29 _, type := _, pos := _, after := _, guard := _ } :: _) _ _
       refine load_g rfl 29 _ rfl w.heap.size 0 rfl (V.cs a c) d HG.out.1.range hd hrw infoV ?_
       go_wp2_with fail))
  refine HW.out.mono ?_
  rintro e w1 ⟨rfl, g1⟩
  have HG1 := Keep.mk (HG.out.2.1.trans g1)
  clear HW g1
  obtain ⟨cd, hcd⟩ : ∃ q, W.2 = q := ⟨_, rfl⟩
  have HC := Keep.mk hcd
  rw [hcd]
  clear hcd
  by_cases hz : cd = 0
  · have hq : (cd == 0) = true := by simp [hz]
    have HZ := Keep.mk hz
    have HSL := Keep.mk (seal_c (mkD ses seq (ba W.1)) key (mk_fine _ HG.out.2.2.2.2.1 HG.out.2.2.2.2.2.1) (mk_small _ (by rw [ba_size]; have := HG.out.2.2.2.2.2.2.1; omega)) w1 (HG.out.2.2.1.kept HG1.out (by simp)) HG.out.2.2.2.1)
    have HMM : Keep (sealD (mkD ses seq (ba W.1)) key = M) := by
      have h := HG.out.2.2.2.2.2.2.2
      rw [HC.out, if_pos hz] at h
      exact ⟨h⟩
    have HB := Keep.mk (builtD ses seq (ba W.1))
    unfold dv at HSL
    rw [HMM.out] at HSL
    clear hz
    go_wp2_with (first
      | (with_reducible show wpList _ _ _ ({ dst := _, op := Op.build 67 _, type := _, pos := _, after := _, guard := _ } :: _) _ _
         refine wpList_build rfl 67 _ rfl _ ((congrArg (Tryz.prog.built 67) (by simp only [List.map_toArray, List.map_cons, List.map_nil]; rfl)).trans HB.out) ?_
         go_wp2_with fail))
    refine HSL.out.mono ?_
    rintro e w2 ⟨rfl, g2⟩
    have HG2 := Keep.mk (HG1.out.trans g2)
    clear g2 HSL
    go_wp2_with fail
    go_ret2
    exact ⟨rfl, HG2.out⟩
  · have hq : (cd == 0) = false := by simp [hz]
    have HMM : Keep ((nob, cd) = M) := by
      have h := HG.out.2.2.2.2.2.2.2
      rw [HC.out, if_neg hz] at h
      exact ⟨h⟩
    clear hz
    go_wp2_with fail
    go_ret2
    exact ⟨by rw [← HMM.out]; rfl, HG1.out⟩
theorem dz_cells : (#[.int .i64 0, .string { data := #[] }, .int .u64 0, .string { data := #[] }, .string { data := #[] }, .int .u64 0, .int .i64 0, .string { data := #[] }, .int .u64 0, .int .i64 0, .int .i64 0, .bool false, .bool false, .string { data := #[] }, .string { data := #[] }] : Array Value).toList = (Dg.zero 0).cells := rfl
theorem un_1 {s key : ByteArray} (h : (dec (sl s)).2 ≠ 0) : unS s key = (Dg.zero 0, (dec (sl s)).2) := by unfold unS; rw [if_neg h]
theorem un_2 {s key : ByteArray} (h : (dec (sl s)).2 = 0) (h6 : (dec (sl s)).1.kind ≠ 6) : unS s key = (Dg.zero 0, 71) := by unfold unS; rw [if_pos h, if_neg h6]
theorem un_3 {s key : ByteArray} (h : (dec (sl s)).2 = 0) (h6 : (dec (sl s)).1.kind = 6) (hk : sealed s key = false) : unS s key = (Dg.zero 0, 124) := by unfold unS; rw [if_pos h, if_pos h6, hk]; rfl
theorem un_4 {s key : ByteArray} (h : (dec (sl s)).2 = 0) (h6 : (dec (sl s)).1.kind = 6) (hk : sealed s key = true) : unS s key = ((dec (sl s)).1, 0) := by unfold unS; rw [if_pos h, if_pos h6, hk]; rfl
set_option maxHeartbeats 8000000 in
set_option maxRecDepth 100000 in
theorem unseal_c (s key : ByteArray) (w : World) (hk : Kc w) (hs : s.size ≤ 281474976710656) (hkey : key.size ≤ 2305843009213693952) :
    Calls Tryz.prog 27 #[.string s, .string key] w fun e w' => e = .returned (.tuple #[dv (unS s key).1, .int .i64 (unS s key).2]) ∧ w.grownBy w' none := by
  obtain ⟨d, hd, hrw⟩ := under26
  obtain ⟨U, hU⟩ : ∃ q, unS s key = q := ⟨_, rfl⟩
  rw [hU]
  obtain ⟨w0, hw0⟩ : ∃ q, w.alloc (.cells #[.int .i64 0, .string { data := #[] }, .int .u64 0, .string { data := #[] }, .string { data := #[] }, .int .u64 0, .int .i64 0, .string { data := #[] }, .int .u64 0, .int .i64 0, .int .i64 0, .bool false, .bool false, .string { data := #[] }, .string { data := #[] }] 67) = q := ⟨_, rfl⟩
  obtain ⟨h0, g0, s0⟩ := hasN hw0
  have HD := Keep.mk (decode_c s w0 (by omega))
  obtain ⟨D, hD⟩ : ∃ q, dec (sl s) = q := ⟨_, rfl⟩
  rw [hD] at HD
  have HG := Keep.mk (And.intro h0 (And.intro g0 (And.intro hk (And.intro hs (And.intro hkey (And.intro hU hD))))))
  clear h0 g0 s0 hk hs hkey hU hD
  go_enter Tryz.func27, Tryz.ntmps27
  go_wp2_with fail
  refine HD.out.mono ?_
  rintro e w1 ⟨rfl, g1⟩
  obtain ⟨D1, hD1⟩ : ∃ q, D.1 = q := ⟨_, rfl⟩
  obtain ⟨cd, hcd⟩ : ∃ q, D.2 = q := ⟨_, rfl⟩
  have HC := Keep.mk (And.intro hD1 hcd)
  rw [hD1, hcd]
  obtain ⟨w2, hw2⟩ : ∃ q, w1.alloc (.cells D1.cells.toArray 67) = q := ⟨_, rfl⟩
  obtain ⟨h2, g2, s2⟩ := hasN hw2
  obtain ⟨kd, hkd⟩ : ∃ q, D1.kind = q := ⟨_, rfl⟩
  have hw3 : w1.alloc (.cells #[.int .i64 kd, .string D1.nonce, .int .u64 D1.epoch, .string D1.cookie, .string D1.name, .int .u64 D1.session, .int .i64 D1.player, .string D1.salt, .int .u64 D1.seq, .int .i64 D1.thr, .int .i64 D1.turn, .bool D1.fire, .bool D1.boost, .string D1.data, .string D1.tag] 67) = w2 := by rw [← hkd]; exact hw2
  have c2 : w2.cell? ⟨w1.heap.size, 0, none⟩ = some (.int .i64 kd) := by rw [← hkd]; exact h2.cellv 0 _ rfl
  have HR : Keep (Has w2 w.heap.size (Dg.zero 0).cells 67 ∧ Has w2 w1.heap.size D1.cells 67 ∧ w.grownBy w2 none) := ⟨(HG.out.1.kept g1 (by simp)).kept g2 (by simp), h2, (HG.out.2.1.trans g1).trans g2⟩
  have HK := Keep.mk hkd
  unfold dv
  rw [hkd]
  clear HD g1 hD1 hcd hw2 h2 g2 s2 hkd
  by_cases hz : cd = 0
  · have hq : (cd == 0) = true := by simp [hz]
    have HZ : Keep ((dec (sl s)).2 = 0) := ⟨by rw [HG.out.2.2.2.2.2.2, HC.out.2]; exact hz⟩
    clear hz
    by_cases h6 : kd = 6
    · have hq6 : (kd == 6) = true := by simp [h6]
      have H6 : Keep ((dec (sl s)).1.kind = 6) := ⟨by rw [HG.out.2.2.2.2.2.2, HC.out.1, HK.out]; exact h6⟩
      clear h6
      have HS := Keep.mk (sealed_c s key w2 (HG.out.2.2.1.kept HR.out.2.2 (by simp)) HG.out.2.2.2.1 HG.out.2.2.2.2.1)
      go_wp2_with fail
      refine HS.out.mono ?_
      rintro e w3 ⟨rfl, g3⟩
      obtain ⟨bs, hbs⟩ : ∃ q, sealed s key = q := ⟨_, rfl⟩
      rw [hbs]
      have HR3 : Keep (Has w3 w.heap.size (Dg.zero 0).cells 67 ∧ Has w3 w1.heap.size D1.cells 67 ∧ w.grownBy w3 none) := ⟨HR.out.1.kept g3 (by simp), HR.out.2.1.kept g3 (by simp), HR.out.2.2.trans g3⟩
      have HB := Keep.mk hbs
      clear HS HR g3 hbs
      cases bs
      · have HR2 : Keep (U = (Dg.zero 0, 124)) := ⟨by rw [← HG.out.2.2.2.2.2.1]; exact un_3 HZ.out H6.out HB.out⟩
        have HR := HR3
        have HBT := Keep.mk builtD0
        go_wp2_with (first
          | (with_reducible show wpList _ _ _ ({ dst := _, op := Op.build 67 _, type := _, pos := _, after := _, guard := _ } :: _) _ _
             refine wpList_build rfl 67 _ rfl _ ((congrArg (Tryz.prog.built 67) (by simp only [List.map_toArray, List.map_nil]; rfl)).trans HBT.out) ?_)
          | (with_reducible show wpList _ _ _ ({ dst := _, op := Op.store 67 _ _, type := _, pos := _, after := _, guard := _ } :: _) _ _
             refine st_all _ w.heap.size (Dg.zero 0).cells (Dg.zero 0).cells 67 67 rfl rfl rfl rfl HR.out.1 rfl info26 (dg_one _) ?_
             intro w6 h6 g6
             have HF := Keep.mk (And.intro h6 g6)
             clear h6 g6))
        exact ret_ct rfl rfl HF.out.1 hd hrw info26 rfl (by rw [HR2.out]; exact ⟨rfl, gr_new HR.out.2.2 HF.out.2 (Nat.le_refl _)⟩)
      · have HR2 : Keep (U = (D1, 0)) := ⟨by rw [← HG.out.2.2.2.2.2.1, un_4 HZ.out H6.out HB.out, HG.out.2.2.2.2.2.2, HC.out.1]⟩
        go_wp2_with (first
          | (with_reducible show wpList _ _ _ ({ dst := _, op := Op.load 67 _, type := _, pos := _, after := _, guard := _ } :: _) _ _
             refine load_g rfl 67 _ rfl w1.heap.size 0 rfl D1.cells d HR3.out.2.1.range hd hrw info26 ?_)
          | (with_reducible show wpList _ _ _ ({ dst := _, op := Op.store 67 _ _, type := _, pos := _, after := _, guard := _ } :: _) _ _
             refine st_all _ w.heap.size (Dg.zero 0).cells D1.cells 67 67 rfl rfl rfl rfl HR3.out.1 rfl info26 (dg_one _) ?_
             intro w6 h6 g6
             have HF := Keep.mk (And.intro h6 g6)
             clear h6 g6))
        exact ret_ct rfl rfl HF.out.1 hd hrw info26 rfl (by rw [HR2.out]; exact ⟨rfl, gr_new HR3.out.2.2 HF.out.2 (Nat.le_refl _)⟩)
    · have hq6 : (kd == 6) = false := by simp [h6]
      have HR2 : Keep (U = (Dg.zero 0, 71)) := ⟨by rw [← HG.out.2.2.2.2.2.1]; exact un_2 HZ.out (by rw [HG.out.2.2.2.2.2.2, HC.out.1, HK.out]; exact h6)⟩
      clear h6
      have HBT := Keep.mk builtD0
      go_wp2_with (first
        | (with_reducible show wpList _ _ _ ({ dst := _, op := Op.build 67 _, type := _, pos := _, after := _, guard := _ } :: _) _ _
           refine wpList_build rfl 67 _ rfl _ ((congrArg (Tryz.prog.built 67) (by simp only [List.map_toArray, List.map_nil]; rfl)).trans HBT.out) ?_)
        | (with_reducible show wpList _ _ _ ({ dst := _, op := Op.store 67 _ _, type := _, pos := _, after := _, guard := _ } :: _) _ _
           refine st_all _ w.heap.size (Dg.zero 0).cells (Dg.zero 0).cells 67 67 rfl rfl rfl rfl HR.out.1 rfl info26 (dg_one _) ?_
           intro w6 h6 g6
           have HF := Keep.mk (And.intro h6 g6)
           clear h6 g6))
      exact ret_ct rfl rfl HF.out.1 hd hrw info26 rfl (by rw [HR2.out]; exact ⟨rfl, gr_new HR.out.2.2 HF.out.2 (Nat.le_refl _)⟩)
  · have hq : (cd == 0) = false := by simp [hz]
    have HR2 : Keep (U = (Dg.zero 0, cd)) := ⟨by rw [← HG.out.2.2.2.2.2.1, un_1 (by rw [HG.out.2.2.2.2.2.2, HC.out.2]; exact hz), HG.out.2.2.2.2.2.2, HC.out.2]⟩
    clear hz
    have HBT := Keep.mk builtD0
    go_wp2_with (first
      | (with_reducible show wpList _ _ _ ({ dst := _, op := Op.build 67 _, type := _, pos := _, after := _, guard := _ } :: _) _ _
         refine wpList_build rfl 67 _ rfl _ ((congrArg (Tryz.prog.built 67) (by simp only [List.map_toArray, List.map_nil]; rfl)).trans HBT.out) ?_)
      | (with_reducible show wpList _ _ _ ({ dst := _, op := Op.store 67 _ _, type := _, pos := _, after := _, guard := _ } :: _) _ _
         refine st_all _ w.heap.size (Dg.zero 0).cells (Dg.zero 0).cells 67 67 rfl rfl rfl rfl HR.out.1 rfl info26 (dg_one _) ?_
         intro w6 h6 g6
         have HF := Keep.mk (And.intro h6 g6)
         clear h6 g6))
    exact ret_ct rfl rfl HF.out.1 hd hrw info26 rfl (by rw [HR2.out]; exact ⟨rfl, gr_new HR.out.2.2 HF.out.2 (Nat.le_refl _)⟩)
end Go.Proofs.YtkdjcknikhgfkabGreatDoor.Pk.Sn

namespace Go.Proofs.YtkdjcknikhgfkabGreatDoor.Pk.Sn
open Go Go.RowKit

theorem results_ttct {fn : Func} {p q r s : Tmp} {ty : TypeId} (h : fn.results = #[.tmp q, .tmp r, .cell p ty, .tmp s]) (tmps : Array Value) (P : Program) (w : World) :
    (results fn tmps).run P w = ((asAddr (tmps.getD p undef)).run P w).andThen fun a w₁ => ((loadVar ty a).run P w₁).andThen fun v w₂ => .ok (.tuple #[tmps.getD q undef, tmps.getD r undef, v, tmps.getD s undef]) w₂ := by
  simp only [results, h]
  simp [Sem.run_bind, Result.andThen]
theorem ret_ttct {P : Program} {fn : Func} {R : Ending → World → Prop} {a : Act} {w : World} {p q r s : Tmp} {ty t : TypeId} {b : Nat} {cs : List Value} {d : TypeDesc}
    (hr : fn.results = #[.tmp q, .tmp r, .cell p ty, .tmp s]) (hp : a.tmps.getD p undef = .pointer (some ⟨b, 0, none⟩)) (hh : Has w b cs t) (hu : P.underlying ty = some d) (hd : d.isRow = true)
    (hi : (P.info? ty).map (·.size) = some cs.length) (hdf : a.defers = []) (h : R (.returned (.tuple #[a.tmps.getD q undef, a.tmps.getD r undef, .agg cs.toArray, a.tmps.getD s undef])) w) : bodyPost P fn R .ret a w := by
  refine bodyPost_ret (v := .tuple #[a.tmps.getD q undef, a.tmps.getD r undef, .agg cs.toArray, a.tmps.getD s undef]) ?_ hdf h
  rw [results_ttct hr, hp]
  simp [asAddr, Result.andThen, run_loadVar_mid w b 0 ty cs d hh.range hu hd hi]
theorem rd_later {w w2 w3 w4 : World} {V : Vw} {a : Option Addr} {c : Nat} (h : RdR w2 w3 V a c) (g : w.grownBy w2 none) (g4 : w3.grownBy w4 none) : RdR w w4 V a c := by
  refine ⟨(g.trans h.g).trans g4, ?_⟩
  rcases h.s with q | ⟨b, q1, q2, q3, q4⟩
  · exact .inl q
  · exact .inr ⟨b, q1, q2, Nat.le_trans g.size q3, q4.kept g4 (by simp)⟩
theorem rd_over {w w4 w7 : World} {V : Vw} {a : Option Addr} {c : Nat} (h : RdR w w4 V a c) (g : w4.grownBy w7 (some w.heap.size)) (hb : ∀ b, a = some ⟨b, 0, none⟩ → b ≠ w.heap.size) : RdR w w7 V a c := by
  refine ⟨gr_new h.g g (Nat.le_refl _), ?_⟩
  rcases h.s with q | ⟨b, q1, q2, q3, q4⟩
  · exact .inl q
  · exact .inr ⟨b, q1, q2, q3, q4.kept g (fun e => hb b q1 (Option.some.inj e))⟩
theorem op_1 {s key : ByteArray} (h : (unS s key).2 ≠ 0) : opS s key = (0, 0, Vw.zero, (unS s key).2) := by unfold opS; rw [if_neg h]
theorem op_2 {s key : ByteArray} (h : (unS s key).2 = 0) (h2 : (rdV (sl (unS s key).1.data)).2 ≠ 0) : opS s key = (0, 0, Vw.zero, (rdV (sl (unS s key).1.data)).2) := by unfold opS; rw [if_pos h, if_neg h2]
theorem op_3 {s key : ByteArray} (h : (unS s key).2 = 0) (h2 : (rdV (sl (unS s key).1.data)).2 = 0) : opS s key = ((unS s key).1.session, (unS s key).1.seq, (rdV (sl (unS s key).1.data)).1, 0) := by unfold opS; rw [if_pos h, if_pos h2]
set_option maxHeartbeats 8000000 in
set_option maxRecDepth 100000 in
theorem open_c (s key : ByteArray) (w : World) (hk : Kc w) (hs : s.size ≤ 281474976710656) (hkey : key.size ≤ 2305843009213693952) :
    Calls Tryz.prog 10 #[.string s, .string key] w fun e w' => ∃ a c, e = .returned (.tuple #[.int .u64 ((opS s key).1 : Nat), .int .u64 ((opS s key).2.1 : Nat), .agg ((opS s key).2.2.1.cs a c).toArray, iv (opS s key).2.2.2]) ∧ RdR w w' (opS s key).2.2.1 a c := by
  obtain ⟨d, hd, hrw⟩ := underV
  obtain ⟨U, hU⟩ : ∃ q, opS s key = q := ⟨_, rfl⟩
  rw [hU]
  obtain ⟨w0, hw0⟩ : ∃ q, w.alloc (.cells #[.int .u64 0, .int .i64 0, .string { data := #[] }, .int .i64 0, .int .i64 0, .int .i64 0, .int .i64 0, .int .i64 0, .int .i64 0, .int .i64 0, .int .i64 0, .int .i64 0, .int .i64 0, .int .i64 0, .int .i64 0, .slice none 0 0] 29) = q := ⟨_, rfl⟩
  obtain ⟨h0, g0, s0⟩ := hasN hw0
  have HD := Keep.mk (unseal_c s key w0 (hk.kept g0 (by simp)) hs hkey)
  obtain ⟨D, hD⟩ : ∃ q, unS s key = q := ⟨_, rfl⟩
  rw [hD] at HD
  have HG := Keep.mk (And.intro h0 (And.intro g0 (And.intro hU hD)))
  clear h0 g0 s0 hk hs hkey hU hD
  go_enter Tryz.func10, Tryz.ntmps10
  go_wp2_with fail
  refine HD.out.mono ?_
  rintro e w1 ⟨rfl, g1⟩
  obtain ⟨D1, hD1⟩ : ∃ q, D.1 = q := ⟨_, rfl⟩
  obtain ⟨cd, hcd⟩ : ∃ q, D.2 = q := ⟨_, rfl⟩
  have HC := Keep.mk (And.intro hD1 hcd)
  rw [hD1, hcd]
  obtain ⟨w2, hw2⟩ : ∃ q, w1.alloc (.cells D1.cells.toArray 67) = q := ⟨_, rfl⟩
  obtain ⟨h2, g2, s2⟩ := hasN hw2
  have hw3 : w1.alloc (.cells #[.int .i64 D1.kind, .string D1.nonce, .int .u64 D1.epoch, .string D1.cookie, .string D1.name, .int .u64 D1.session, .int .i64 D1.player, .string D1.salt, .int .u64 D1.seq, .int .i64 D1.thr, .int .i64 D1.turn, .bool D1.fire, .bool D1.boost, .string D1.data, .string D1.tag] 67) = w2 := hw2
  have HR : Keep (Has w2 w.heap.size [uv 0, iv 0, .string ⟨#[]⟩, iv 0, iv 0, iv 0, iv 0, iv 0, iv 0, iv 0, iv 0, iv 0, iv 0, iv 0, iv 0, .slice none 0 0] 29 ∧ w.grownBy w2 none) := ⟨(HG.out.1.kept g1 (by simp)).kept g2 (by simp), (HG.out.2.1.trans g1).trans g2⟩
  have c13 : w2.cell? ⟨w1.heap.size, 13, none⟩ = some (.string D1.data) := h2.cellv 13 _ rfl
  have H2 := Keep.mk h2
  unfold dv
  clear HD g1 hD1 hcd hw2 h2 g2 s2
  by_cases hz : cd = 0
  · have hq : (cd == 0) = true := by simp [hz]
    have HZ : Keep ((unS s key).2 = 0 ∧ (unS s key).1 = D1) := ⟨by rw [HG.out.2.2.2, HC.out.2]; exact hz, by rw [HG.out.2.2.2, HC.out.1]⟩
    clear hz
    go_wp2_with fail
    refine (read_c D1.data w2).mono ?_
    rintro e w3 ⟨a, c, rfl, RR⟩
    obtain ⟨V, hV⟩ : ∃ q, (rdV (sl D1.data)).1 = q := ⟨_, rfl⟩
    obtain ⟨rc, hrc⟩ : ∃ q, (rdV (sl D1.data)).2 = q := ⟨_, rfl⟩
    rw [hV] at RR
    rw [hV, hrc]
    have HRC := Keep.mk (And.intro hV (And.intro hrc RR))
    have HR3 : Keep (Has w3 w.heap.size [uv 0, iv 0, .string ⟨#[]⟩, iv 0, iv 0, iv 0, iv 0, iv 0, iv 0, iv 0, iv 0, iv 0, iv 0, iv 0, iv 0, .slice none 0 0] 29 ∧ w.grownBy w3 none ∧ Has w3 w1.heap.size D1.cells 67) := ⟨HR.out.1.kept RR.g (by simp), HR.out.2.trans RR.g, H2.out.kept RR.g (by simp)⟩
    clear hV hrc RR c13
    by_cases hz2 : rc = 0
    · have hq2 : (rc == 0) = true := by simp [hz2]
      have HR2 : Keep (U = (D1.session, D1.seq, V, 0)) := by
        refine ⟨?_⟩
        rw [← HG.out.2.2.1, op_3 HZ.out.1 (by rw [HZ.out.2, HRC.out.2.1]; exact hz2), HZ.out.2, HRC.out.1]
      clear hz2
      go_wp2_with (first
        | (with_reducible show wpList _ _ _ ({ dst := _, op := Op.store 29 _ _, type := _, pos := _, after := _, guard := _ } :: _) _ _
           refine st_new w3 (V.cs a c) 29 rfl rfl rfl rfl rfl infoV (vw_one _ _ _) ?_
           intro w4 h4 g4
           have HB : Keep (Has w4 w.heap.size [uv 0, iv 0, .string ⟨#[]⟩, iv 0, iv 0, iv 0, iv 0, iv 0, iv 0, iv 0, iv 0, iv 0, iv 0, iv 0, iv 0, .slice none 0 0] 29 ∧ w4.cell? ⟨w1.heap.size, 5, none⟩ = some (.int .u64 D1.session) ∧ w4.cell? ⟨w1.heap.size, 8, none⟩ = some (.int .u64 D1.seq) ∧ Has w4 w3.heap.size (V.cs a c) 29 ∧ w.grownBy w4 none ∧ RdR w w4 V a c) := ⟨HR3.out.1.kept g4 (by simp), g4.cell (HR3.out.2.2.cellv 5 _ rfl) (by simp), g4.cell (HR3.out.2.2.cellv 8 _ rfl) (by simp), h4, HR3.out.2.1.trans g4, rd_later HRC.out.2.2 HR.out.2 g4⟩
           clear h4 g4))
      refine region_Y (S := fun w' => w'.cell? ⟨w1.heap.size, 5, none⟩ = some (.int .u64 D1.session) ∧ w'.cell? ⟨w1.heap.size, 8, none⟩ = some (.int .u64 D1.seq) ∧ Has w' w3.heap.size (V.cs a c) 29) [7] (by kernel_rfl) ?_
      obtain ⟨W0, hW0⟩ : ∃ W_, w4.drew = W_ := ⟨_, rfl⟩
      replace HB : Keep (Has w4.drew w.heap.size [uv 0, iv 0, .string ⟨#[]⟩, iv 0, iv 0, iv 0, iv 0, iv 0, iv 0, iv 0, iv 0, iv 0, iv 0, iv 0, iv 0, .slice none 0 0] 29 ∧ w4.drew.cell? ⟨w1.heap.size, 5, none⟩ = some (.int .u64 D1.session) ∧ w4.drew.cell? ⟨w1.heap.size, 8, none⟩ = some (.int .u64 D1.seq) ∧ Has w4.drew w3.heap.size (V.cs a c) 29 ∧ w.grownBy w4.drew none ∧ RdR w w4.drew V a c) := ⟨HB.out.1, HB.out.2.1, HB.out.2.2.1, HB.out.2.2.2.1, HB.out.2.2.2.2.1.trans (gr_drew _ none), ⟨HB.out.2.2.2.2.2.g.trans (gr_drew _ none), HB.out.2.2.2.2.2.s⟩⟩
      rw [hW0] at HB ⊢
      clear hW0
      have hHeld : (fun w' => w'.cell? ⟨w1.heap.size, 5, none⟩ = some (.int .u64 D1.session) ∧ w'.cell? ⟨w1.heap.size, 8, none⟩ = some (.int .u64 D1.seq) ∧ Has w' w3.heap.size (V.cs a c) 29) W0 := ⟨HB.out.2.1, HB.out.2.2.1, HB.out.2.2.2.1⟩
      refine wpAnyY_pure (i := 0) (oi := _) (v := ?_) rfl (by kernel_rfl) (by kernel_rfl) (by kernel_rfl) (by kernel_rfl) (fun _ _ _ h => h) (Or.inl ⟨by rfl, ?_⟩) ?_
      rotate_left
      · (intro w hSw; go_simp; first | done | (with_reducible rfl))
      simp only [Act.put, List.getElem_toArray, List.getElem_cons_zero, List.setIfInBounds_toArray, List.set_cons_zero, List.set_cons_succ]
      refine wpAnyY_take (i := 1) (oi := _) (v := ?_) rfl (by kernel_rfl) (by kernel_rfl) (by kernel_rfl) (by kernel_rfl) (by kernel_rfl) (fun _ _ _ h => h) (Or.inl ⟨by rfl, ?_⟩) (by assumption) ?_
      rotate_left
      · (intro w hSw; obtain ⟨x1, x2, x3⟩ := hSw; go_simp; first | done | (with_reducible rfl))
      simp only [Act.put, List.getElem_toArray, List.getElem_cons_succ, List.getElem_cons_zero, List.setIfInBounds_toArray, List.set_cons_zero, List.set_cons_succ]
      refine wpAnyY_pure (i := 2) (oi := _) (v := ?_) rfl (by kernel_rfl) (by kernel_rfl) (by kernel_rfl) (by kernel_rfl) (fun _ _ _ h => h) (Or.inl ⟨by rfl, ?_⟩) ?_
      rotate_left
      · (intro w hSw; go_simp; first | done | (with_reducible rfl))
      simp only [Act.put, List.getElem_toArray, List.getElem_cons_succ, List.getElem_cons_zero, List.setIfInBounds_toArray, List.set_cons_zero, List.set_cons_succ]
      refine wpAnyY_take (i := 3) (oi := _) (v := ?_) rfl (by kernel_rfl) (by kernel_rfl) (by kernel_rfl) (by kernel_rfl) (by kernel_rfl) (fun _ _ _ h => h) (Or.inl ⟨by rfl, ?_⟩) (by assumption) ?_
      rotate_left
      · (intro w hSw; obtain ⟨x1, x2, x3⟩ := hSw; go_simp; first | done | (with_reducible rfl))
      simp only [Act.put, List.getElem_toArray, List.getElem_cons_succ, List.getElem_cons_zero, List.setIfInBounds_toArray, List.set_cons_zero, List.set_cons_succ]
      refine wpAnyY_take (i := 4) (oi := _) (v := .agg (V.cs a c).toArray) rfl (by kernel_rfl) (by kernel_rfl) (by kernel_rfl) (by kernel_rfl) (by kernel_rfl) (fun _ _ _ h => h) (yieldsIf_load_mid (by rfl) 29 _ rfl _ _ rfl _ _ (fun w hSw => hSw.2.2.range) hd hrw infoV) (by assumption) ?_
      simp only [Act.put, List.getElem_toArray, List.getElem_cons_succ, List.getElem_cons_zero, List.setIfInBounds_toArray, List.set_cons_zero, List.set_cons_succ]
      refine wpAnyY_one (i := 5) (by kernel_rfl) rfl (fun K hK => ?_)
      go_simp
      refine hK.out _ _ (fun h => h) ?_
      clear hK K
      refine wpAnyY_one (i := 6) (by kernel_rfl) rfl (fun K hK => ?_)
      go_simp
      refine hK.out _ _ (fun h => h) ?_
      clear hK K
      refine wpAnyY_late (i := 7) (by kernel_rfl) rfl (by kernel_rfl) (fun K hK => ?_)
      rw [if_pos (show Region.wanted _ _ = true from rfl)]
      refine wp_store_mid 29 _ _ rfl w.heap.size 0 (V.cs a c).toArray rfl rfl (HB.out.1.there 0 16 (Nat.le_refl _)) infoV (all_oneCell_toArray (vw_one V a c)) ?_
      refine hK.out _ _ ?_
      clear hK K
      have HF : Keep (Has (W0.setCells w.heap.size 0 (V.cs a c)) w.heap.size (V.cs a c) 29 ∧ W0.grownBy (W0.setCells w.heap.size 0 (V.cs a c)) (some w.heap.size)) := ⟨HB.out.1.setAll (V.cs a c) rfl, gr_sets _ _ _ _⟩
      obtain ⟨w7, hw7⟩ : ∃ q, W0.setCells w.heap.size 0 (V.cs a c) = q := ⟨_, rfl⟩
      rw [hw7] at HF
      change wpAnyY _ _ _ _ _ _ _ _ _ (W0.setCells w.heap.size 0 (V.cs a c))
      rw [hw7]
      clear hw7
      refine wpAnyY_one (i := 8) (by kernel_rfl) rfl (fun K hK => ?_)
      go_simp
      refine hK.out _ _ (fun h => h) ?_
      clear hK K
      refine wpAnyY_done (by kernel_rfl) ?_ _
      go_wp2_with fail
      exact ret_ttct rfl rfl HF.out.1 hd hrw infoV rfl (by rw [HR2.out]; exact ⟨a, c, rfl, rd_over HB.out.2.2.2.2.2 HF.out.2 (fun b e => by
        have hl := HR.out.1.lt
        rcases HRC.out.2.2.s with ⟨q, _⟩ | ⟨b', q1, _, q3, _⟩
        · rw [q] at e; cases e
        · rw [q1] at e; have := congrArg Addr.block (Option.some.inj e); simp only at this; omega)⟩)
    · have hq2 : (rc == 0) = false := by simp [hz2]
      have HR2 : Keep (U = (0, 0, Vw.zero, rc)) := by
        refine ⟨?_⟩
        rw [← HG.out.2.2.1, op_2 HZ.out.1 (by rw [HZ.out.2, HRC.out.2.1]; exact hz2), HZ.out.2, HRC.out.2.1]
      clear hz2
      have HBT := Keep.mk builtV
      go_wp2_with (first
        | (with_reducible show wpList _ _ _ ({ dst := _, op := Op.store 29 _ _, type := _, pos := _, after := _, guard := _ } :: _) _ (World.alloc _ _)
           refine st_new w3 (V.cs a c) 29 rfl rfl rfl rfl rfl infoV (vw_one _ _ _) ?_
           intro w4 h4 g4
           have HR5 : Keep (Has w4 w.heap.size [uv 0, iv 0, .string ⟨#[]⟩, iv 0, iv 0, iv 0, iv 0, iv 0, iv 0, iv 0, iv 0, iv 0, iv 0, iv 0, iv 0, .slice none 0 0] 29 ∧ w.grownBy w4 none) := ⟨HR3.out.1.kept g4 (by simp), HR3.out.2.1.trans g4⟩
           clear h4 g4)
        | (with_reducible show wpList _ _ _ ({ dst := _, op := Op.build 29 _, type := _, pos := _, after := _, guard := _ } :: _) _ _
           refine wpList_build rfl 29 _ rfl _ ((congrArg (Tryz.prog.built 29) (by simp only [List.map_toArray, List.map_nil]; rfl)).trans HBT.out) ?_)
        | (with_reducible show wpList _ _ _ ({ dst := _, op := Op.store 29 _ _, type := _, pos := _, after := _, guard := _ } :: _) _ _
           refine st_all _ w.heap.size [uv 0, iv 0, .string ⟨#[]⟩, iv 0, iv 0, iv 0, iv 0, iv 0, iv 0, iv 0, iv 0, iv 0, iv 0, iv 0, iv 0, .slice none 0 0] (Vw.zero.cs none 0) 29 29 rfl rfl rfl rfl HR5.out.1 rfl infoV (vw_one _ _ _) ?_
           intro w6 h6 g6
           have HF := Keep.mk (And.intro h6 g6)
           clear h6 g6))
      exact ret_ttct rfl rfl HF.out.1 hd hrw infoV rfl (by rw [HR2.out]; exact ⟨none, 0, rfl, gr_new HR5.out.2 HF.out.2 (Nat.le_refl _), .inl ⟨rfl, rfl, rfl⟩⟩)
  · have hq : (cd == 0) = false := by simp [hz]
    have HR2 : Keep (U = (0, 0, Vw.zero, cd)) := ⟨by rw [← HG.out.2.2.1, op_1 (by rw [HG.out.2.2.2, HC.out.2]; exact hz), HG.out.2.2.2, HC.out.2]⟩
    clear hz
    have HBT := Keep.mk builtV
    go_wp2_with (first
      | (with_reducible show wpList _ _ _ ({ dst := _, op := Op.build 29 _, type := _, pos := _, after := _, guard := _ } :: _) _ _
         refine wpList_build rfl 29 _ rfl _ ((congrArg (Tryz.prog.built 29) (by simp only [List.map_toArray, List.map_nil]; rfl)).trans HBT.out) ?_)
      | (with_reducible show wpList _ _ _ ({ dst := _, op := Op.store 29 _ _, type := _, pos := _, after := _, guard := _ } :: _) _ _
         refine st_all _ w.heap.size [uv 0, iv 0, .string ⟨#[]⟩, iv 0, iv 0, iv 0, iv 0, iv 0, iv 0, iv 0, iv 0, iv 0, iv 0, iv 0, iv 0, .slice none 0 0] (Vw.zero.cs none 0) 29 29 rfl rfl rfl rfl HR.out.1 rfl infoV (vw_one _ _ _) ?_
         intro w6 h6 g6
         have HF := Keep.mk (And.intro h6 g6)
         clear h6 g6))
    exact ret_ttct rfl rfl HF.out.1 hd hrw infoV rfl (by rw [HR2.out]; exact ⟨none, 0, rfl, gr_new HR.out.2 HF.out.2 (Nat.le_refl _), .inl ⟨rfl, rfl, rfl⟩⟩)
end Go.Proofs.YtkdjcknikhgfkabGreatDoor.Pk.Sn

