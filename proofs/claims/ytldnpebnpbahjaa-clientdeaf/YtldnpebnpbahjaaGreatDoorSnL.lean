import Derived.Test.YtldnpebnpbahjaaGreatDoorX31
import Derived.Test.YtldnpebnpbahjaaGreatDoorX19
import Derived.Test.YtldnpebnpbahjaaGreatDoorFE3
import Derived.Test.YtldnpebnpbahjaaGreatDoorFJ4
/- snap.Make and snap.Open -/
namespace Go.Proofs.YtldnpebnpbahjaaGreatDoor.Pk.Sn
open Go Go.RowKit

/-- a snapshot as a datagram -/
def mkD (ses seq : Nat) (b : ByteArray) : Dg := { Dg.zero 6 with session := ses, seq := seq, data := b }
/-- what Make answers -/
def mkS (ses seq : Nat) (V : Vw) (key : ByteArray) : ByteArray × Int := if (wrV V).2 = 0 then sealD (mkD ses seq (ba (wrV V).1)) key else (nob, (wrV V).2)
/-- what unseal answers -/
def unS (s key : ByteArray) : Dg × Int := if (dec (sl s)).2 = 0 then (if (dec (sl s)).1.kind = 6 then (if sealed s key then ((dec (sl s)).1, 0) else (Dg.zero 0, 124)) else (Dg.zero 0, 71)) else (Dg.zero 0, (dec (sl s)).2)
/-- what Open answers -/
def opS (s key : ByteArray) : Nat × Nat × Vw × Int := if (unS s key).2 = 0 then (if (rdV (sl (unS s key).1.data)).2 = 0 then ((unS s key).1.session, (unS s key).1.seq, (rdV (sl (unS s key).1.data)).1, 0) else (0, 0, Vw.zero, (rdV (sl (unS s key).1.data)).2)) else (0, 0, Vw.zero, (unS s key).2)
set_option maxRecDepth 100000 in
theorem builtD (a b : Int) (s : ByteArray) : Tryz.prog.built 34 [(0, .int .i64 6), (5, .int .u64 a), (8, .int .u64 b), (10, .string s)] = some #[.int .i64 6, .string { data := #[] }, .int .u64 0, .string { data := #[] }, .string { data := #[] }, .int .u64 a, .int .i64 0, .string { data := #[] }, .int .u64 b, .int .i64 0, .int .i64 0, .bool false, .bool false, .string s, .string { data := #[] }] := by kernel_rfl
set_option maxRecDepth 100000 in
theorem builtD0 : Tryz.prog.built 34 [] = some #[.int .i64 0, .string { data := #[] }, .int .u64 0, .string { data := #[] }, .string { data := #[] }, .int .u64 0, .int .i64 0, .string { data := #[] }, .int .u64 0, .int .i64 0, .int .i64 0, .bool false, .bool false, .string { data := #[] }, .string { data := #[] }] := by kernel_rfl
theorem dg_one (d : Dg) : ∀ v ∈ d.cells, v.oneCell' = true := by
  intro v hv
  simp only [Dg.cells, List.mem_cons, List.not_mem_nil, or_false] at hv
  rcases hv with rfl | rfl | rfl | rfl | rfl | rfl | rfl | rfl | rfl | rfl | rfl | rfl | rfl | rfl | rfl <;> rfl
/-- a value of many cells is laid into a new block -/
theorem st_new {ops : Array Oper} {rest : List Oper} {op : Oper} {a : Act} {Q : Exit → Act → World → Prop} (w3 : World) (cs : List Value) (T : TypeId) {A : Array Value} (hgd : op.guard = none) {x y : Operand} (ho : op.op = .store T x y)
    (hx : a.eval x = .pointer (some ⟨w3.heap.size, 0, none⟩)) (hy : a.eval y = .agg cs.toArray) (hA : A.size = cs.length) (hi : (Tryz.prog.info? T).map (·.size) = some cs.length) (h1 : ∀ v ∈ cs, v.oneCell' = true)
    (h : ∀ w6, Has w6 w3.heap.size cs T → w3.grownBy w6 none → wpList Tryz.prog ops Q rest (a.put op.dst undef) w6) : wpList Tryz.prog ops Q (op :: rest) a (w3.alloc (.cells A T)) := by
  have e : A.toList.length = cs.length := by rw [Array.length_toList]; exact hA
  have hn := Has.newA w3 A T
  have hg : w3.grownBy ((w3.alloc (.cells A T)).setCells w3.heap.size 0 cs.toArray.toList) none := gr_new (World.grownBy_alloc _ _ _) (gr_sets _ _ _ _) (Nat.le_refl _)
  refine wpList_store_mid hgd T x y ho w3.heap.size 0 cs.toArray hx hy (hn.there 0 cs.toArray.size (by rw [e, List.size_toArray]; omega)) (by rw [List.size_toArray]; exact hi) (all_oneCell_toArray h1) ?_
  exact h _ (hn.setAll cs e.symm) hg
theorem wrV_len {V : Vw} (h : V.ok) : (wrV V).1.length ≤ 7000 := by
  by_cases hf : fitV V
  · rw [wrV_yes h hf]
    show (encV V).length ≤ 7000
    rw [encV_len]
    have h1 := fit_cnt hf.h
    have h2 : (sl V.n).length < 256 := hf.h.2.2.1
    rw [sl_len] at h2
    omega
  · rw [wrV_no h hf]; simp
theorem mk_fine {ses seq : Nat} (b : ByteArray) (h1 : ses < 18446744073709551616) (h2 : seq < 18446744073709551616) : (mkD ses seq b).fine := ⟨by show (-9223372036854775808 : Int) ≤ 6 ∧ (6 : Int) < 9223372036854775808; omega, by show 0 < 18446744073709551616; omega, h1, by show (-9223372036854775808 : Int) ≤ 0 ∧ (0 : Int) < 9223372036854775808; omega, h2, by show (-9223372036854775808 : Int) ≤ 0 ∧ (0 : Int) < 9223372036854775808; omega, by show (-9223372036854775808 : Int) ≤ 0 ∧ (0 : Int) < 9223372036854775808; omega⟩
theorem mk_small {ses seq : Nat} (b : ByteArray) (h : b.size ≤ 1099511627776) : (mkD ses seq b).small := ⟨by show (0 : Nat) ≤ _; omega, by show (0 : Nat) ≤ _; omega, by show (0 : Nat) ≤ _; omega, by show (0 : Nat) ≤ _; omega, h, by show (0 : Nat) ≤ _; omega⟩
set_option maxHeartbeats 8000000 in
set_option maxRecDepth 100000 in
theorem make_c (ses seq : Nat) (V : Vw) (a : Option Addr) (c : Nat) (key : ByteArray) (w : World) (h1 : ses < 18446744073709551616) (h2 : seq < 18446744073709551616) (ho : V.ok) (hr : SeenR w a V.S) (hk : Kc w) (hkey : key.size ≤ 2305843009213693952) :
    Calls Tryz.prog 14 #[.int .u64 (ses : Int), .int .u64 (seq : Int), .agg (V.cs a c).toArray, .string key] w fun e w' => e = .returned (.tuple #[.string (mkS ses seq V key).1, .int .i64 (mkS ses seq V key).2]) ∧ w.grownBy w' none := by
  obtain ⟨d, hd, hrw⟩ := underV
  obtain ⟨M, hM⟩ : ∃ q, mkS ses seq V key = q := ⟨_, rfl⟩
  rw [hM]
  obtain ⟨w0, hw0⟩ : ∃ q, w.alloc (.cells (V.cs a c).toArray 49) = q := ⟨_, rfl⟩
  obtain ⟨h0, g0, s0⟩ := hasN hw0
  have HW := Keep.mk (write_c V a c w0 ho (hr.kept g0))
  obtain ⟨W, hW⟩ : ∃ q, wrV V = q := ⟨_, rfl⟩
  have hWl := wrV_len ho
  unfold mkS at hM
  rw [hW] at HW hM hWl
  have HG := Keep.mk (And.intro h0 (And.intro g0 (And.intro hk (And.intro hkey (And.intro h1 (And.intro h2 (And.intro hWl hM)))))))
  have hcs : (V.cs a c).toArray = #[uv V.t, iv V.p, .string V.n, iv V.x, iv V.y, iv V.u, iv V.v, iv V.h, iv V.he, iv V.en, iv V.am, iv V.co, iv V.wt, iv V.sp, iv V.sc, .slice a V.S.length c] := rfl
  have HCS := Keep.mk hcs
  rw [hcs] at hw0 ⊢
  clear h0 g0 s0 hr hk hkey h1 h2 ho hWl hM hW hcs
  go_enter Tryz.func14, Tryz.ntmps14
  go_wp2_with (first
    | (with_reducible show wpList _ _ _ ({ dst := _, op := Op.load 49 _, type := _, pos := _, after := _, guard := _ } :: _) _ _
       refine load_g rfl 49 _ rfl w.heap.size 0 rfl (V.cs a c) d HG.out.1.range hd hrw infoV ?_
       go_wp2_with fail))
  refine HW.out.mono ?_
  rintro e w1 ⟨rfl, g1⟩
  have HG1 := Keep.mk (HG.out.2.1.trans g1)
  clear HW g1
  obtain ⟨cd, hcd⟩ : ∃ q, W.2 = q := ⟨_, rfl⟩
  have HC := Keep.mk hcd
  rw [hcd]
  clear hcd
  by_cases hz : cd = 0
  · have hq : (cd == 0) = true := by simp [hz]
    have HZ := Keep.mk hz
    have HSL := Keep.mk (seal_c (mkD ses seq (ba W.1)) key (mk_fine _ HG.out.2.2.2.2.1 HG.out.2.2.2.2.2.1) (mk_small _ (by rw [ba_size]; have := HG.out.2.2.2.2.2.2.1; omega)) w1 (HG.out.2.2.1.kept HG1.out (by simp)) HG.out.2.2.2.1)
    have HMM : Keep (sealD (mkD ses seq (ba W.1)) key = M) := by
      have h := HG.out.2.2.2.2.2.2.2
      rw [HC.out, if_pos hz] at h
      exact ⟨h⟩
    have HB := Keep.mk (builtD ses seq (ba W.1))
    unfold dv at HSL
    rw [HMM.out] at HSL
    clear hz
    go_wp2_with (first
      | (with_reducible show wpList _ _ _ ({ dst := _, op := Op.build 34 _, type := _, pos := _, after := _, guard := _ } :: _) _ _
         refine wpList_build rfl 34 _ rfl _ ((congrArg (Tryz.prog.built 34) (by simp only [List.map_toArray, List.map_cons, List.map_nil]; rfl)).trans HB.out) ?_
         go_wp2_with fail))
    refine HSL.out.mono ?_
    rintro e w2 ⟨rfl, g2⟩
    have HG2 := Keep.mk (HG1.out.trans g2)
    clear g2 HSL
    go_wp2_with fail
    go_ret2
    exact ⟨rfl, HG2.out⟩
  · have hq : (cd == 0) = false := by simp [hz]
    have HMM : Keep ((nob, cd) = M) := by
      have h := HG.out.2.2.2.2.2.2.2
      rw [HC.out, if_neg hz] at h
      exact ⟨h⟩
    clear hz
    go_wp2_with fail
    go_ret2
    exact ⟨by rw [← HMM.out]; rfl, HG1.out⟩
theorem dz_cells : (#[.int .i64 0, .string { data := #[] }, .int .u64 0, .string { data := #[] }, .string { data := #[] }, .int .u64 0, .int .i64 0, .string { data := #[] }, .int .u64 0, .int .i64 0, .int .i64 0, .bool false, .bool false, .string { data := #[] }, .string { data := #[] }] : Array Value).toList = (Dg.zero 0).cells := rfl
theorem un_1 {s key : ByteArray} (h : (dec (sl s)).2 ≠ 0) : unS s key = (Dg.zero 0, (dec (sl s)).2) := by unfold unS; rw [if_neg h]
theorem un_2 {s key : ByteArray} (h : (dec (sl s)).2 = 0) (h6 : (dec (sl s)).1.kind ≠ 6) : unS s key = (Dg.zero 0, 71) := by unfold unS; rw [if_pos h, if_neg h6]
theorem un_3 {s key : ByteArray} (h : (dec (sl s)).2 = 0) (h6 : (dec (sl s)).1.kind = 6) (hk : sealed s key = false) : unS s key = (Dg.zero 0, 124) := by unfold unS; rw [if_pos h, if_pos h6, hk]; rfl
theorem un_4 {s key : ByteArray} (h : (dec (sl s)).2 = 0) (h6 : (dec (sl s)).1.kind = 6) (hk : sealed s key = true) : unS s key = ((dec (sl s)).1, 0) := by unfold unS; rw [if_pos h, if_pos h6, hk]; rfl
end Go.Proofs.YtldnpebnpbahjaaGreatDoor.Pk.Sn
