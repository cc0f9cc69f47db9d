/- F2h, M1, M2, Q1 -/
import Derived.Test.YtgedlabmndlooaaGreatF0
import Derived.Test.YtgedlabmndlooaaGreatP6
namespace Go.Proofs.YtgedlabmndlooaaGreat
open Go Go.RowKit Go.Maps Go.Shelf Go.Lib Go.Sort

theorem bslc (c : Cr) (W : World) : (Instr.buildSlice 34 1 #[(0, .agg (crv c).toArray)]).run Tryz.prog W = .ok (sl W.heap.size 1 1) (W.alloc (.cells (crv c).toArray 26)) := by kernel_rfl
theorem bsls (c : Sh) (W : World) : (Instr.buildSlice 35 1 #[(0, .agg (shv c).toArray)]).run Tryz.prog W = .ok (sl W.heap.size 1 1) (W.alloc (.cells (shv c).toArray 46)) := by kernel_rfl
theorem Sep.appCr {w0 W : World} {l : List As} {v : Value} {L : List Cr} (c : Cr) (h : Sep w0 W (rowV 26 14 v L.length (fl crv L) :: l)) (hn : (L.length + 1) * 120 ≤ 140737488355328) :
    ∃ g k W', (Builtin.append_ #[34, 34] 34 #[v, sl W.heap.size 1 1]).run Tryz.prog (W.alloc (.cells (crv c).toArray 26)) = .ok (sl g (L.length + 1) k) W' ∧ Sep w0 W' (rowV 26 14 (sl g (L.length + 1) k) (L ++ [c]).length (fl crv (L ++ [c])) :: l) := by
  obtain ⟨i, i1, i2, i3, i4⟩ := infoBC
  obtain ⟨g, k, W', r, S⟩ := Sep.app (t := 34) undSC i1 i4 i2 i3 rfl (by decide) h (crv c) rfl (crv_one c) hn (by decide)
  refine ⟨g, k, W', r, ?_⟩
  rw [fl_app, List.length_append, List.length_singleton, show fl crv [c] = crv c by simp [fl]]
  exact S
theorem Sep.appSh {w0 W : World} {l : List As} {v : Value} {L : List Sh} (c : Sh) (h : Sep w0 W (rowV 46 7 v L.length (fl shv L) :: l)) (hn : (L.length + 1) * 56 ≤ 140737488355328) :
    ∃ g k W', (Builtin.append_ #[35, 35] 35 #[v, sl W.heap.size 1 1]).run Tryz.prog (W.alloc (.cells (shv c).toArray 46)) = .ok (sl g (L.length + 1) k) W' ∧ Sep w0 W' (rowV 46 7 (sl g (L.length + 1) k) (L ++ [c]).length (fl shv (L ++ [c])) :: l) := by
  obtain ⟨i, i1, i2, i3, i4⟩ := infoBS
  obtain ⟨g, k, W', r, S⟩ := Sep.app (t := 35) undSS i1 i4 i2 i3 rfl (by decide) h (shv c) rfl (shv_one c) hn (by decide)
  refine ⟨g, k, W', r, ?_⟩
  rw [fl_app, List.length_append, List.length_singleton, show fl shv [c] = shv c by simp [fl]]
  exact S
end Go.Proofs.YtgedlabmndlooaaGreat

namespace Go.Proofs.YtgedlabmndlooaaGreat
open Go Go.RowKit Go.Maps Go.Shelf Go.Lib Go.Sort

theorem app_nn' {t e : TypeId} {i : TypeInfo} {s : Nat} (ht : Tryz.prog.underlying t = some (.slice e)) (i1 : Tryz.prog.info? e = some i) (c : Nat) (W : World) (v : Value) (n : Nat) (L : List Value) (h : W.ownsRow 0 e s v n L) : (Builtin.append_ #[t, t] t #[v, .slice none 0 c]).run Tryz.prog W = .ok v W := by
  rcases h.2 with ⟨rfl, rfl⟩ | ⟨g, cap, cur, rfl, _, _, hnc, _⟩
  · simp [Builtin.append_, run_underlying ht, sizeOf, typeInfo, i1, Builtin.lenOf, Builtin.firstCells]
  · simp [Builtin.append_, run_underlying ht, sizeOf, typeInfo, i1, Builtin.lenOf, Builtin.firstCells, hnc, storeCells]
set_option maxRecDepth 100000 in
/-- a list is appended to a row of structs -/
theorem Sep.appLk {α : Type} {enc : α → List Value} {k : Nat} (hk : ∀ x, (enc x).length = k) (hk0 : 0 < k) (hone : ∀ (x : α) u, u ∈ enc x → u.oneCell' = true) {t e : TypeId} {i : TypeInfo} {z : Value} {bytes : Nat} (ht : Tryz.prog.underlying t = some (.slice e)) (hi : Tryz.prog.info? e = some i) (hz : i.zero = some z) (hs : i.size = k) (hby : i.bytes = bytes) (hzs : z.cells.size = k) (hb0 : 0 < bytes)
    {w0 W : World} {l : List As} {v va : Value} {L A : List α} (h : Sep w0 W (rowV e k v L.length (fl enc L) :: l)) (hA : Ls enc k W va A) (hn : (L.length + A.length) * bytes ≤ 140737488355328) :
    ∃ v' W', (Builtin.append_ #[t, t] t #[v, va]).run Tryz.prog W = .ok v' W' ∧ Sep w0 W' (rowV e k v' (L ++ A).length (fl enc (L ++ A)) :: l) := by
  obtain ⟨a, cap, rfl, hv⟩ := hA
  cases a with
  | none =>
    have h0 : A = [] := by
      cases A with
      | nil => rfl
      | cons x r => obtain ⟨g, o, e, _⟩ := hv (by simp); cases e
    subst h0
    refine ⟨v, W, app_nn' ht hi cap W v _ _ (h.rowGet k0m), ?_⟩
    rw [List.append_nil]
    exact h
  | some p =>
    obtain ⟨v', W', r1, S2⟩ := Sep.appF (t := t) ht hi hz hs hby hzs hk0 h p A.length cap (fl enc A) (fl_len hk A) (fun j u hu => by
      have hj := (List.getElem?_eq_some_iff.1 hu).1
      rw [fl_len hk] at hj
      have hA0 : 0 < A.length := by
        rcases Nat.eq_zero_or_pos A.length with q | q
        · rw [q, Nat.zero_mul] at hj; exact absurd hj (Nat.not_lt_zero _)
        · exact q
      obtain ⟨g, o, e, q⟩ := hv hA0
      injection e with e
      subst e
      have hjk : j / k < A.length := Nat.div_lt_of_lt_mul (by rw [Nat.mul_comm]; exact hj)
      have hjr : j / k * k + j % k = j := by rw [Nat.mul_comm]; exact Nat.div_add_mod j k
      have q2 := q (j / k) A[j / k] (List.getElem?_eq_getElem hjk) (j % k) u (by
        have hr : j % k < (enc A[j / k]).length := by rw [hk]; exact Nat.mod_lt _ hk0
        rw [List.getElem?_eq_getElem hr]
        have q3 := fl_get hk A (j / k) A[j / k] (j % k) _ (List.getElem?_eq_getElem hjk) (List.getElem?_eq_getElem hr)
        rw [hjr, hu] at q3
        exact q3.symm)
      rw [Addr.add_mid, show o + j = o + j / k * k + j % k by rw [Nat.add_assoc, hjr]]
      exact q2) (fun u hu => by
        obtain ⟨x, _, hx⟩ := List.mem_flatMap.1 hu
        exact hone x u hx) hn hb0
    refine ⟨v', W', r1, ?_⟩
    rw [fl_app, List.length_append]
    exact S2
theorem Sep.appLC {w0 W : World} {l : List As} {v va : Value} {L A : List Cr} (h : Sep w0 W (rowV 26 14 v L.length (fl crv L) :: l)) (hA : Ls crv 14 W va A) (hn : (L.length + A.length) * 120 ≤ 140737488355328) :
    ∃ v' W', (Builtin.append_ #[34, 34] 34 #[v, va]).run Tryz.prog W = .ok v' W' ∧ Sep w0 W' (rowV 26 14 v' (L ++ A).length (fl crv (L ++ A)) :: l) := by
  obtain ⟨i, i1, i2, i3, i4⟩ := infoBC
  exact Sep.appLk crv_len (by decide) crv_one undSC i1 i4 i2 i3 rfl (by decide) h hA hn
theorem Sep.appLS {w0 W : World} {l : List As} {v va : Value} {L A : List Sh} (h : Sep w0 W (rowV 46 7 v L.length (fl shv L) :: l)) (hA : Ls shv 7 W va A) (hn : (L.length + A.length) * 56 ≤ 140737488355328) :
    ∃ v' W', (Builtin.append_ #[35, 35] 35 #[v, va]).run Tryz.prog W = .ok v' W' ∧ Sep w0 W' (rowV 46 7 v' (L ++ A).length (fl shv (L ++ A)) :: l) := by
  obtain ⟨i, i1, i2, i3, i4⟩ := infoBS
  exact Sep.appLk shv_len (by decide) shv_one undSS i1 i4 i2 i3 rfl (by decide) h hA hn
/-- what stands behind a list that is lent -/
def rmC : Cr := ⟨-71, { data := #[114, 111, 111, 109] }, 0, 0, 0, 0, 0, 0, 0, 0, 0, 0, 0, 0⟩
def rmS : Sh := ⟨-71, 0, 0, 0, 0, 0, 0⟩
theorem builtRC : Tryz.prog.built 26 [(0, iv (-71)), (1, .string { data := #[114, 111, 111, 109] })] = some (crv rmC).toArray := by kernel_rfl
theorem builtRS : Tryz.prog.built 46 [(0, iv (-71))] = some (shv rmS).toArray := by kernel_rfl
theorem built56 (t n : Int) (a b : Option Addr) (m k m' k' : Nat) : Tryz.prog.built 56 [(0, .agg [.int .u64 t, .slice a m m', .slice b k k', iv n].toArray)] = some [.int .u64 t, .slice a m m', .slice b k k', iv n, .slice none 0 0, .slice none 0 0].toArray := by kernel_rfl
theorem info56 : (Tryz.prog.info? 56).map (·.size) = some 6 := by kernel_rfl
theorem under56 : ∃ d, Tryz.prog.underlying 56 = some d ∧ d.isRow = true := ⟨_, Tryz.underlying56, rfl⟩
theorem lnv_one (t n : Int) (a b c d : Option Addr) (m k j i m' k' j' i' : Nat) : ∀ u ∈ [Value.int .u64 t, .slice a m m', .slice b k k', iv n, .slice c j j', .slice d i i'], u.oneCell' = true := by
  intro u hu
  simp only [List.mem_cons, List.not_mem_nil, or_false] at hu
  rcases hu with rfl | rfl | rfl | rfl | rfl | rfl <;> rfl
/-- a state that was lent -/
abbrev ltv (tick nx : Int) (gC kC nc gH kH ns : Nat) : List Value := [.int .u64 tick, sl gC nc kC, sl gH ns kH, iv nx, sl gC (nc + 1) kC, sl gH (ns + 1) kH]
/-- lent -/
structure LtR (W W' : World) (tick nx : Int) (LC : List Cr) (LS : List Sh) (e : Ending) : Prop where
  o : ∃ gC kC gH kH, e = .returned (.agg (ltv tick nx gC kC LC.length gH kH LS.length).toArray) ∧ Sep W W' (rowV 26 14 (sl gC (LC.length + 1) kC) (LC.length + 1) (fl crv (LC ++ [rmC])) :: rowV 46 7 (sl gH (LS.length + 1) kH) (LS.length + 1) (fl shv (LS ++ [rmS])) :: [])
set_option maxRecDepth 100000 in
set_option maxHeartbeats 16000000 in
theorem lent_c (W : World) (tick nx : Int) (vc vs : Value) (LC : List Cr) (LS : List Sh) (hc : Ls crv 14 W vc LC) (hs : Ls shv 7 W vs LS) (hnc : LC.length ≤ 1048576) (hns : LS.length ≤ 1048576) :
    Calls Tryz.prog 19 #[.agg #[.int .u64 tick, vc, vs, iv nx]] W fun e W' => LtR W W' tick nx LC LS e := by
  have HLC := Keep.mk hc
  have HLS := Keep.mk hs
  obtain ⟨ac, cc, rfl, _⟩ := hc
  obtain ⟨az, cz, rfl, _⟩ := hs
  obtain ⟨nc, hncc⟩ : ∃ n, LC.length = n := ⟨_, rfl⟩
  obtain ⟨ns, hnss⟩ : ∃ n, LS.length = n := ⟨_, rfl⟩
  rw [hncc] at HLC hnc ⊢
  rw [hnss] at HLS hns ⊢
  have HN : Keep (LC.length = nc ∧ LS.length = ns ∧ nc ≤ 1048576 ∧ ns ≤ 1048576) := ⟨⟨hncc, hnss, hnc, hns⟩⟩
  have S1 := ((Sep.nil W).newBox #[.int .u64 tick, .slice ac nc cc, .slice az ns cz, iv nx] 37).newBox #[.int .u64 0, .slice none 0 0, .slice none 0 0, iv 0, .slice none 0 0, .slice none 0 0] 56
  simp only [World.size_alloc] at S1
  obtain ⟨b1, hb1⟩ : ∃ b, W.heap.size = b := ⟨_, rfl⟩
  obtain ⟨b2, hb2⟩ : ∃ b, b1 + 1 = b := ⟨_, rfl⟩
  obtain ⟨W1, hW1⟩ : ∃ w, (W.alloc (.cells #[.int .u64 tick, .slice ac nc cc, .slice az ns cz, iv nx] 37)).alloc (.cells #[.int .u64 0, .slice none 0 0, .slice none 0 0, iv 0, .slice none 0 0, .slice none 0 0] 56) = w := ⟨_, rfl⟩
  rw [hW1, hb1, hb2] at S1
  have HB : Keep (Sep W W1 (boxA b2 [.int .u64 0, .slice none 0 0, .slice none 0 0, iv 0, .slice none 0 0, .slice none 0 0] 56 :: boxA b1 [.int .u64 tick, .slice ac nc cc, .slice az ns cz, iv nx] 37 :: [])) := ⟨S1⟩
  obtain ⟨ds, hds⟩ := under37
  obtain ⟨dl, hdl⟩ := under56
  have HR := Keep.mk ((HB.out.boxGet k1m).range)
  have HBU := Keep.mk (built56 tick nx ac az nc ns cc cz)
  clear S1
  go_enter Tryz.func19, Tryz.ntmps19
  go_wp2_with (first
    | (with_reducible show wpList _ _ _ ({ dst := some 4, op := Op.load 37 _, type := _, pos := _, after := _, guard := _ } :: _) _ _
       refine wpList_load_mid rfl 37 _ rfl _ _ rfl ([.int .u64 tick, .slice ac nc cc, .slice az ns cz, iv nx]) _ HR.out hds.1 hds.2 info37 ?_)
    | (with_reducible show wpList _ _ _ ({ dst := some 5, op := Op.build 56 _, type := _, pos := _, after := _, guard := _ } :: _) _ _
       refine wpList_build rfl 56 _ rfl ([.int .u64 tick, .slice ac nc cc, .slice az ns cz, iv nx, .slice none 0 0, .slice none 0 0]).toArray ((congrArg (Tryz.prog.built 56) (by first | (simp only [List.map_toArray, List.map_cons, List.map_nil, Act.eval]; done) | (simp only [List.map_toArray, List.map_cons, List.map_nil, Act.eval]; with_reducible rfl) | (simp only [List.map_toArray, List.map_cons, List.map_nil, Act.eval]; rfl))).trans HBU.out) ?_
       simp only [Act.put, List.setIfInBounds_toArray, List.set_cons_zero, List.set_cons_succ])
    | (with_reducible show wpList _ _ _ ({ dst := _, op := Op.store 56 _ _, type := _, pos := _, after := _, guard := _ } :: _) _ _
       refine store_new W1 ([.int .u64 tick, .slice ac nc cc, .slice az ns cz, iv nx, .slice none 0 0, .slice none 0 0]) 56 rfl rfl rfl rfl rfl info56 (lnv_one _ _ _ _ _ _ _ _ _ _ _ _ _ _) ?_))
  intro W2 hS2 g2
  clear hW1 hb1 hb2 HBU HR
  obtain ⟨b3, hb3⟩ : ∃ b, W1.heap.size = b := ⟨_, rfl⟩
  have S2 := hS2 _ _ HB.out
  rw [hb3] at S2 ⊢
  clear hS2 g2 hb3 HB
  -- region 2
  have f4 := (S2.boxGet k0m).cellv 4 _ rfl
  have f1 := (S2.boxGet k2m).cellv 1 _ rfl
  obtain ⟨v3, W3, ap, S3⟩ := Sep.appLC (L := []) (S2.nilV 26 14) (HLC.out.kept S2.g) (by have := HN.out; simp only [List.length_nil]; omega)
  rw [List.nil_append] at S3
  obtain ⟨a3, c3, rfl⟩ := own_slice (S3.rowGet k0m)
  rw [HN.out.1] at S3 ap
  have AP3 := Keep.mk ap
  have z4 := (S3.boxGet k1m).cellv 4 _ rfl
  have x4 := (S3.boxGet k1m).frozen 4
  have S4 := S3.swap.boxPut 4 (.slice a3 nc c3)
  obtain ⟨W4, hW4⟩ : ∃ w, W3.setCell ⟨b3, 4, none⟩ (.slice a3 nc c3) = w := ⟨_, rfl⟩
  rw [hW4] at S4
  have S4 : Sep W W4 (boxA b3 [.int .u64 tick, .slice ac nc cc, .slice az ns cz, iv nx, .slice a3 nc c3, .slice none 0 0] 56 :: rowV 26 14 (.slice a3 nc c3) nc (fl crv LC) :: boxA b2 [.int .u64 0, .slice none 0 0, .slice none 0 0, iv 0, .slice none 0 0, .slice none 0 0] 56 :: boxA b1 [.int .u64 tick, .slice ac nc cc, .slice az ns cz, iv nx] 37 :: []) := S4
  clear S2 S3 ap
  -- region 3
  have g4 := (S4.boxGet k0m).cellv 4 _ rfl
  obtain ⟨gC, kC, W5, ap, S5⟩ := Sep.appCr (L := LC) rmC (v := .slice a3 nc c3) (by rw [HN.out.1]; exact S4.swap) (by have := HN.out; omega)
  rw [List.length_append, List.length_singleton, HN.out.1] at S5
  rw [HN.out.1] at ap
  have AP5 := Keep.mk ap
  have y4 := (S5.boxGet k1m).cellv 4 _ rfl
  have t4 := (S5.boxGet k1m).frozen 4
  have S6 := S5.swap.boxPut 4 (sl gC (nc + 1) kC)
  obtain ⟨W6, hW6⟩ : ∃ w, W5.setCell ⟨b3, 4, none⟩ (sl gC (nc + 1) kC) = w := ⟨_, rfl⟩
  rw [hW6] at S6
  have S6 : Sep W W6 (boxA b3 [.int .u64 tick, .slice ac nc cc, .slice az ns cz, iv nx, sl gC (nc + 1) kC, .slice none 0 0] 56 :: rowV 26 14 (sl gC (nc + 1) kC) (nc + 1) (fl crv (LC ++ [rmC])) :: boxA b2 [.int .u64 0, .slice none 0 0, .slice none 0 0, iv 0, .slice none 0 0, .slice none 0 0] 56 :: boxA b1 [.int .u64 tick, .slice ac nc cc, .slice az ns cz, iv nx] 37 :: []) := S6
  have hkC := row_cap (S6.rowGet k1m)
  clear S4 S5 ap
  -- region 4
  have f5 := (S6.boxGet k0m).cellv 5 _ rfl
  have f2 := (S6.boxGet k3m).cellv 2 _ rfl
  obtain ⟨v7, W7, ap, S7⟩ := Sep.appLS (L := []) (S6.nilV 46 7) (HLS.out.kept S6.g) (by have := HN.out; simp only [List.length_nil]; omega)
  rw [List.nil_append] at S7
  obtain ⟨a7, c7, rfl⟩ := own_slice (S7.rowGet k0m)
  rw [HN.out.2.1] at S7 ap
  have AP7 := Keep.mk ap
  have z5 := (S7.boxGet k1m).cellv 5 _ rfl
  have x5 := (S7.boxGet k1m).frozen 5
  have S8 := S7.swap.boxPut 5 (.slice a7 ns c7)
  obtain ⟨W8, hW8⟩ : ∃ w, W7.setCell ⟨b3, 5, none⟩ (.slice a7 ns c7) = w := ⟨_, rfl⟩
  rw [hW8] at S8
  have S8 : Sep W W8 (boxA b3 [.int .u64 tick, .slice ac nc cc, .slice az ns cz, iv nx, sl gC (nc + 1) kC, .slice a7 ns c7] 56 :: rowV 46 7 (.slice a7 ns c7) ns (fl shv LS) :: rowV 26 14 (sl gC (nc + 1) kC) (nc + 1) (fl crv (LC ++ [rmC])) :: boxA b2 [.int .u64 0, .slice none 0 0, .slice none 0 0, iv 0, .slice none 0 0, .slice none 0 0] 56 :: boxA b1 [.int .u64 tick, .slice ac nc cc, .slice az ns cz, iv nx] 37 :: []) := S8
  clear S6 S7 ap
  -- region 5
  have g5 := (S8.boxGet k0m).cellv 5 _ rfl
  obtain ⟨gH, kH, W9, ap, S9⟩ := Sep.appSh (L := LS) rmS (v := .slice a7 ns c7) (by rw [HN.out.2.1]; exact S8.swap) (by have := HN.out; omega)
  rw [List.length_append, List.length_singleton, HN.out.2.1] at S9
  rw [HN.out.2.1] at ap
  have AP9 := Keep.mk ap
  have y5 := (S9.boxGet k1m).cellv 5 _ rfl
  have t5 := (S9.boxGet k1m).frozen 5
  have SA := S9.swap.boxPut 5 (sl gH (ns + 1) kH)
  obtain ⟨WA, hWA⟩ : ∃ w, W9.setCell ⟨b3, 5, none⟩ (sl gH (ns + 1) kH) = w := ⟨_, rfl⟩
  rw [hWA] at SA
  have SA : Sep W WA (boxA b3 [.int .u64 tick, .slice ac nc cc, .slice az ns cz, iv nx, sl gC (nc + 1) kC, sl gH (ns + 1) kH] 56 :: rowV 46 7 (sl gH (ns + 1) kH) (ns + 1) (fl shv (LS ++ [rmS])) :: rowV 26 14 (sl gC (nc + 1) kC) (nc + 1) (fl crv (LC ++ [rmC])) :: boxA b2 [.int .u64 0, .slice none 0 0, .slice none 0 0, iv 0, .slice none 0 0, .slice none 0 0] 56 :: boxA b1 [.int .u64 tick, .slice ac nc cc, .slice az ns cz, iv nx] 37 :: []) := SA
  have hkH := row_cap (SA.rowGet k1m)
  clear S8 S9 ap
  -- region 6
  have h4 := (SA.boxGet k0m).cellv 4 _ rfl
  have h1 := (SA.boxGet k4m).cellv 1 _ rfl
  have m1 := (SA.boxGet k0m).cellv 1 _ rfl
  have r1 := (SA.boxGet k0m).frozen 1
  have SB := SA.boxPut 1 (sl gC nc kC)
  obtain ⟨WB, hWB⟩ : ∃ w, WA.setCell ⟨b3, 1, none⟩ (sl gC nc kC) = w := ⟨_, rfl⟩
  rw [hWB] at SB
  have SB : Sep W WB (boxA b3 [.int .u64 tick, sl gC nc kC, .slice az ns cz, iv nx, sl gC (nc + 1) kC, sl gH (ns + 1) kH] 56 :: rowV 46 7 (sl gH (ns + 1) kH) (ns + 1) (fl shv (LS ++ [rmS])) :: rowV 26 14 (sl gC (nc + 1) kC) (nc + 1) (fl crv (LC ++ [rmC])) :: boxA b2 [.int .u64 0, .slice none 0 0, .slice none 0 0, iv 0, .slice none 0 0, .slice none 0 0] 56 :: boxA b1 [.int .u64 tick, .slice ac nc cc, .slice az ns cz, iv nx] 37 :: []) := SB
  have h5 := (SB.boxGet k0m).cellv 5 _ rfl
  have h2 := (SB.boxGet k4m).cellv 2 _ rfl
  have m2 := (SB.boxGet k0m).cellv 2 _ rfl
  have r2 := (SB.boxGet k0m).frozen 2
  have SC := SB.boxPut 2 (sl gH ns kH)
  obtain ⟨WC, hWC⟩ : ∃ w, WB.setCell ⟨b3, 2, none⟩ (sl gH ns kH) = w := ⟨_, rfl⟩
  rw [hWC] at SC
  have SC : Sep W WC (boxA b3 [.int .u64 tick, sl gC nc kC, sl gH ns kH, iv nx, sl gC (nc + 1) kC, sl gH (ns + 1) kH] 56 :: rowV 46 7 (sl gH (ns + 1) kH) (ns + 1) (fl shv (LS ++ [rmS])) :: rowV 26 14 (sl gC (nc + 1) kC) (nc + 1) (fl crv (LC ++ [rmC])) :: boxA b2 [.int .u64 0, .slice none 0 0, .slice none 0 0, iv 0, .slice none 0 0, .slice none 0 0] 56 :: boxA b1 [.int .u64 tick, .slice ac nc cc, .slice az ns cz, iv nx] 37 :: []) := SC
  have HB := Keep.mk SC
  have HR3 := Keep.mk ((SC.boxGet k0m).range)
  have HBC := Keep.mk builtRC
  have HBS := Keep.mk builtRS
  have HGC := Keep.mk (bslc rmC)
  have HGS := Keep.mk (bsls rmS)
  have cC : ((nc : Nat) : Int) ≤ (kC : Int) := by omega
  have cH : ((ns : Nat) : Int) ≤ (kH : Int) := by omega
  clear SA SB SC
  go_wp2_with (first
    | (with_reducible show wpList _ _ _ ({ dst := some 10, op := Op.call { callee := Callee.builtin Builtin.append, args := _, argTypes := _ }, type := _, pos := _, after := _, guard := _ } :: _) _ _
       refine wpList_append_run _ rfl (.tmp 7) (.tmp 9) 34 rfl _ _ rfl rfl AP3.out ?_)
    | (with_reducible show wpList _ _ _ ({ dst := some 14, op := Op.build 26 _, type := _, pos := _, after := _, guard := _ } :: _) _ _
       refine wpList_build rfl 26 _ rfl (crv rmC).toArray ((congrArg (Tryz.prog.built 26) (by first | (simp only [List.map_toArray, List.map_cons, List.map_nil, Act.eval]; done) | (simp only [List.map_toArray, List.map_cons, List.map_nil, Act.eval]; with_reducible rfl) | (simp only [List.map_toArray, List.map_cons, List.map_nil, Act.eval]; rfl))).trans HBC.out) ?_
       simp only [Act.put, List.setIfInBounds_toArray, List.set_cons_zero, List.set_cons_succ])
    | (with_reducible show wpList _ _ _ ({ dst := some 15, op := Op.buildSlice 34 _ _, type := _, pos := _, after := _, guard := _ } :: _) _ _
       refine wpList_bs_run rfl (.tmp 14) 34 rfl _ rfl (HGC.out _) ?_)
    | (with_reducible show wpList _ _ _ ({ dst := some 16, op := Op.call { callee := Callee.builtin Builtin.append, args := _, argTypes := _ }, type := _, pos := _, after := _, guard := _ } :: _) _ _
       refine wpList_append_run _ rfl (.tmp 13) (.tmp 15) 34 rfl _ _ rfl rfl AP5.out ?_)
    | (with_reducible show wpList _ _ _ ({ dst := some 22, op := Op.call { callee := Callee.builtin Builtin.append, args := _, argTypes := _ }, type := _, pos := _, after := _, guard := _ } :: _) _ _
       refine wpList_append_run _ rfl (.tmp 19) (.tmp 21) 35 rfl _ _ rfl rfl AP7.out ?_)
    | (with_reducible show wpList _ _ _ ({ dst := some 26, op := Op.build 46 _, type := _, pos := _, after := _, guard := _ } :: _) _ _
       refine wpList_build rfl 46 _ rfl (shv rmS).toArray ((congrArg (Tryz.prog.built 46) (by first | (simp only [List.map_toArray, List.map_cons, List.map_nil, Act.eval]; done) | (simp only [List.map_toArray, List.map_cons, List.map_nil, Act.eval]; with_reducible rfl) | (simp only [List.map_toArray, List.map_cons, List.map_nil, Act.eval]; rfl))).trans HBS.out) ?_
       simp only [Act.put, List.setIfInBounds_toArray, List.set_cons_zero, List.set_cons_succ])
    | (with_reducible show wpList _ _ _ ({ dst := some 27, op := Op.buildSlice 35 _ _, type := _, pos := _, after := _, guard := _ } :: _) _ _
       refine wpList_bs_run rfl (.tmp 26) 35 rfl _ rfl (HGS.out _) ?_)
    | (with_reducible show wpList _ _ _ ({ dst := some 28, op := Op.call { callee := Callee.builtin Builtin.append, args := _, argTypes := _ }, type := _, pos := _, after := _, guard := _ } :: _) _ _
       refine wpList_append_run _ rfl (.tmp 25) (.tmp 27) 35 rfl _ _ rfl rfl AP9.out ?_)
    | (with_reducible show wpList _ _ _ ({ dst := some 46, op := Op.load 56 _, type := _, pos := _, after := _, guard := _ } :: _) _ _
       refine wpList_load_mid rfl 56 _ rfl _ _ rfl ([.int .u64 tick, sl gC nc kC, sl gH ns kH, iv nx, sl gC (nc + 1) kC, sl gH (ns + 1) kH]) _ HR3.out hdl.1 hdl.2 info56 ?_)
    | (with_reducible show wpList _ _ _ ({ dst := _, op := Op.store 56 _ _, type := _, pos := _, after := _, guard := _ } :: _) _ _
       refine store_at WC b2 0 [.int .u64 0, .slice none 0 0, .slice none 0 0, iv 0, .slice none 0 0, .slice none 0 0] [.int .u64 tick, sl gC nc kC, sl gH ns kH, iv nx, sl gC (nc + 1) kC, sl gH (ns + 1) kH] 56 56 rfl rfl rfl rfl (HB.out.boxGet k3m) (Nat.le_refl _) info56 (lnv_one _ _ _ _ _ _ _ _ _ _ _ _ _ _) ?_))
  intro WD hSD gD
  have SD := hSD _ _ (fr1 [_, _, _] HB.out)
  have SD : Sep W WD (boxA b2 [.int .u64 tick, sl gC nc kC, sl gH ns kH, iv nx, sl gC (nc + 1) kC, sl gH (ns + 1) kH] 56 :: boxA b3 [.int .u64 tick, sl gC nc kC, sl gH ns kH, iv nx, sl gC (nc + 1) kC, sl gH (ns + 1) kH] 56 :: rowV 46 7 (sl gH (ns + 1) kH) (ns + 1) (fl shv (LS ++ [rmS])) :: rowV 26 14 (sl gC (nc + 1) kC) (nc + 1) (fl crv (LC ++ [rmC])) :: boxA b1 [.int .u64 tick, .slice ac nc cc, .slice az ns cz, iv nx] 37 :: []) := SD
  have HD := Keep.mk SD
  clear hSD gD SD
  clear hW4 hW6 hW8 hWA hWB hWC f4 f1 z4 x4 g4 y4 t4 f5 f2 z5 x5 g5 y5 t5 h4 h1 m1 r1 h5 h2 m2 r2
  go_wp2_with fail
  refine ret_c rfl rfl (HD.out.boxGet k0m) hdl.1 hdl.2 info56 rfl ?_
  refine ⟨⟨gC, kC, gH, kH, ?_, ?_⟩⟩
  · rw [HN.out.1, HN.out.2.1]
  · rw [HN.out.1, HN.out.2.1]
    exact Sep.dropM (l := []) [_, _] [_] HD.out.tail.tail.swap
end Go.Proofs.YtgedlabmndlooaaGreat

namespace Go.Proofs.YtgedlabmndlooaaGreat
open Go Go.RowKit Go.Maps Go.Shelf Go.Lib Go.Sort

set_option maxRecDepth 100000 in
set_option maxHeartbeats 16000000 in
theorem eqS (x y : Sh) (w : World) : (Op.equalIn 10000 46 (.agg (shv x).toArray) (.agg (shv y).toArray)).run Tryz.prog w = .ok (decide (x = y)) w := by
  rw [show (10000 : Nat) = 9999 + 1 from rfl, run_equalIn_agg w 9999 46 _ _ (by kernel_rfl) (by kernel_rfl)]
  obtain ⟨a1, a2, a3, a4, a5, a6, a7⟩ := x
  obtain ⟨b1, b2, b3, b4, b5, b6, b7⟩ := y
  unfold shv
  have u3 := Tryz.underlying3
  have g3 := Tryz.isAgg3
  have z3 := Tryz.sizeOf3
  have a24 := Tryz.isAgg24
  have z24 := Tryz.sizeOf24
  have ev : ∀ w, (Op.equalIn 9999 24 (.agg #[iv a3, iv a4]) (.agg #[iv b3, iv b4])).run Tryz.prog w = .ok (decide (a3 = b3 ∧ a4 = b4)) w := fun w => eqV 9997 a3 a4 b3 b4 w
  have ev2 : ∀ w, (Op.equalIn 9999 24 (.agg #[iv a5, iv a6]) (.agg #[iv b5, iv b6])).run Tryz.prog w = .ok (decide (a5 = b5 ∧ a6 = b6)) w := fun w => eqV 9997 a5 a6 b5 b6 w
  simp only [Program.fieldsOf, Tryz.underlying46]
  go_simp
  exact ite_dec (ite_dec (ite_vec (ite_vec ite_end)))
set_option maxRecDepth 100000 in
set_option maxHeartbeats 16000000 in
theorem still_c (W : World) (tick nx t2 n2 : Int) (va vb vC vH vc vs : Value) (LC : List Cr) (LS : List Sh) (hC : Ls crv 14 W vC (LC ++ [rmC])) (hH : Ls shv 7 W vH (LS ++ [rmS])) (hc : Ls crv 14 W vc LC) (hs : Ls shv 7 W vs LS) (hnc : LC.length ≤ 1048576) (hns : LS.length ≤ 1048576) :
    Calls Tryz.prog 23 #[.agg #[.int .u64 tick, va, vb, iv nx, vC, vH], .agg #[.int .u64 t2, vc, vs, iv n2]] W fun e W' => e = .returned (.bool true) ∧ W.grownBy W' none := by
  obtain ⟨ac, cc, rfl, hc⟩ := hc
  obtain ⟨az, cz, rfl, hs⟩ := hs
  obtain ⟨aC, kC, rfl, hC⟩ := hC
  obtain ⟨aH, kH, rfl, hH⟩ := hH
  have HLC := Keep.mk hc
  have HLS := Keep.mk hs
  have HMC := Keep.mk hC
  have HMH := Keep.mk hH
  rw [List.length_append, List.length_singleton, List.length_append, List.length_singleton]
  obtain ⟨nc, hncc⟩ : ∃ n, LC.length = n := ⟨_, rfl⟩
  obtain ⟨ns, hnss⟩ : ∃ n, LS.length = n := ⟨_, rfl⟩
  rw [hncc] at hnc ⊢
  rw [hnss] at hns ⊢
  obtain ⟨gC, oC, eC, qC⟩ := hC (by simp)
  obtain ⟨gH, oH, eH, qH⟩ := hH (by simp)
  have hRC : W.rangeAt gC (oC + nc * 14) (crv rmC) := qC nc rmC (by rw [List.getElem?_append_right (by omega), hncc, Nat.sub_self]; rfl)
  have hRH : W.rangeAt gH (oH + ns * 7) (shv rmS) := qH ns rmS (by rw [List.getElem?_append_right (by omega), hnss, Nat.sub_self]; rfl)
  have HN : Keep (LC.length = nc ∧ LS.length = ns ∧ nc ≤ 1048576 ∧ ns ≤ 1048576) := ⟨⟨hncc, hnss, hnc, hns⟩⟩
  have HEA : Keep (aC = some ⟨gC, oC, none⟩ ∧ aH = some ⟨gH, oH, none⟩) := ⟨⟨eC, eH⟩⟩
  have S1 := ((Sep.nil W).newBox #[.int .u64 tick, va, vb, iv nx, .slice aC (nc + 1) kC, .slice aH (ns + 1) kH] 56).newBox #[.int .u64 t2, .slice ac nc cc, .slice az ns cz, iv n2] 37
  simp only [World.size_alloc] at S1
  obtain ⟨b2, hb2⟩ : ∃ b, W.heap.size = b := ⟨_, rfl⟩
  obtain ⟨b3, hb3⟩ : ∃ b, b2 + 1 = b := ⟨_, rfl⟩
  obtain ⟨W1, hW1⟩ : ∃ w, (W.alloc (.cells #[.int .u64 tick, va, vb, iv nx, .slice aC (nc + 1) kC, .slice aH (ns + 1) kH] 56)).alloc (.cells #[.int .u64 t2, .slice ac nc cc, .slice az ns cz, iv n2] 37) = w := ⟨_, rfl⟩
  rw [hW1, hb2, hb3] at S1
  have HB : Keep (Sep W W1 (boxA b3 [.int .u64 t2, .slice ac nc cc, .slice az ns cz, iv n2] 37 :: boxA b2 [.int .u64 tick, va, vb, iv nx, .slice aC (nc + 1) kC, .slice aH (ns + 1) kH] 56 :: [])) := ⟨S1⟩
  obtain ⟨dc, hdc⟩ := under26
  obtain ⟨dz, hdz⟩ := under46
  have HRC : Keep (W1.rangeAt gC (oC + nc * 14) (crv rmC)) := ⟨fun r u hu => S1.g.cell (hRC r u hu) (by simp)⟩
  have HRH : Keep (W1.rangeAt gH (oH + ns * 7) (shv rmS)) := ⟨fun r u hu => S1.g.cell (hRH r u hu) (by simp)⟩
  have k4 := (S1.boxGet k1m).cellv 4 _ rfl
  have k5 := (S1.boxGet k1m).cellv 5 _ rfl
  have k1 := (S1.boxGet k0m).cellv 1 _ rfl
  have k2 := (S1.boxGet k0m).cellv 2 _ rfl
  rw [eC] at k4
  rw [eH] at k5
  have hwc : IntKind.i64.wrap ((nc : Int) + 1) = ((nc + 1 : Nat) : Int) := by rw [IntKind.wrap_i64]; omega
  have hws : IntKind.i64.wrap ((ns : Int) + 1) = ((ns + 1 : Nat) : Int) := by rw [IntKind.wrap_i64]; omega
  have c0 : (0 : Int) ≤ (nc : Int) := by omega
  have s0 : (0 : Int) ≤ (ns : Int) := by omega
  have c1 : (nc : Int) < ((nc + 1 : Nat) : Int) := by omega
  have s1 : (ns : Int) < ((ns + 1 : Nat) : Int) := by omega
  have ct : ((nc : Nat) : Int).toNat = nc := by omega
  have st : ((ns : Nat) : Int).toNat = ns := by omega
  have HBC := Keep.mk builtRC
  have HBS := Keep.mk builtRS
  have neC : ∀ w, (Op.equalIn 10000 26 (.agg (crv rmC).toArray) (.agg (crv rmC).toArray)).run Tryz.prog w = .ok true w := fun w => by have q := eqC rmC rmC w; rwa [decide_eq_true rfl] at q
  have neS : ∀ w, (Op.equalIn 10000 46 (.agg (shv rmS).toArray) (.agg (shv rmS).toArray)).run Tryz.prog w = .ok true w := fun w => by have q := eqS rmS rmS w; rwa [decide_eq_true rfl] at q
  clear S1 hc hs hC hH qC qH hRC hRH hncc hnss hnc hns eC eH
  go_enter Tryz.func23, Tryz.ntmps23
  go_wp2_with (first
    | (with_reducible show wpList _ _ _ ({ dst := some 34, op := Op.load 26 _, type := _, pos := _, after := _, guard := _ } :: _) _ _
       refine load_g rfl 26 _ rfl _ _ rfl (crv rmC) _ HRC.out hdc.1 hdc.2 info26 ?_)
    | (with_reducible show wpList _ _ _ ({ dst := some 43, op := Op.load 46 _, type := _, pos := _, after := _, guard := _ } :: _) _ _
       refine load_g rfl 46 _ rfl _ _ rfl (shv rmS) _ HRH.out hdz.1 hdz.2 info46 ?_)
    | (with_reducible show wpList _ _ _ ({ dst := some 35, op := Op.build 26 _, type := _, pos := _, after := _, guard := _ } :: _) _ _
       refine build_g rfl 26 _ rfl (crv rmC).toArray ((congrArg (Tryz.prog.built 26) (by first | (simp only [List.map_toArray, List.map_cons, List.map_nil, Act.eval]; done) | (simp only [List.map_toArray, List.map_cons, List.map_nil, Act.eval]; with_reducible rfl) | (simp only [List.map_toArray, List.map_cons, List.map_nil, Act.eval]; rfl))).trans HBC.out) ?_
       simp only [Act.put, List.setIfInBounds_toArray, List.set_cons_zero, List.set_cons_succ])
    | (with_reducible show wpList _ _ _ ({ dst := some 44, op := Op.build 46 _, type := _, pos := _, after := _, guard := _ } :: _) _ _
       refine build_g rfl 46 _ rfl (shv rmS).toArray ((congrArg (Tryz.prog.built 46) (by first | (simp only [List.map_toArray, List.map_cons, List.map_nil, Act.eval]; done) | (simp only [List.map_toArray, List.map_cons, List.map_nil, Act.eval]; with_reducible rfl) | (simp only [List.map_toArray, List.map_cons, List.map_nil, Act.eval]; rfl))).trans HBS.out) ?_
       simp only [Act.put, List.setIfInBounds_toArray, List.set_cons_zero, List.set_cons_succ]))
  clear hW1 hb2 hb3 k4 k5 k1 k2 hwc hws c0 s0 c1 s1 ct st neC neS HBC HBS HRC HRH HEA
  go_loopw [7] (fun u7 wr => ∃ i : Nat, i ≤ nc ∧ u7 = iv i ∧ Keep (Sep W wr (boxA b3 [.int .u64 t2, .slice ac nc cc, .slice az ns cz, iv n2] 37 :: boxA b2 [.int .u64 tick, va, vb, iv nx, .slice aC (nc + 1) kC, .slice aH (ns + 1) kH] 56 :: []))) (fun u7 _ => (nc - intOf u7).toNat)
  case atStart => exact ⟨0, Nat.zero_le _, rfl, HB⟩
  case round =>
    clear HB
    obtain ⟨i, hi, rfl, HB⟩ := hrel
    by_cases hlt : i < nc
    · have hlt1 : (i : Int) < (nc : Int) := by omega
      have hlt2 : (i : Int) < (nc : Int) + 1 := by omega
      have hi0 : (0 : Int) ≤ (i : Int) := by omega
      have hit : ((i : Nat) : Int).toNat = i := by omega
      have hiw : IntKind.i64.wrap ((i : Int) + 1) = ((i + 1 : Nat) : Int) := by rw [IntKind.wrap_i64]; have := HN.out; omega
      obtain ⟨x, hx⟩ : ∃ x, LC[i]? = some x := ⟨_, List.getElem?_eq_getElem (by have := HN.out; omega)⟩
      obtain ⟨g1, o1, e1, q1⟩ := HMC.out (by rw [List.length_append]; exact Nat.lt_of_lt_of_le Nat.one_pos (Nat.le_add_left _ _))
      obtain ⟨g2, o2, e2, q2⟩ := HLC.out (by have := HN.out; omega)
      subst e1 e2
      have HX : Keep (W.rangeAt g1 (o1 + i * 14) (crv x)) := ⟨q1 i x (by rw [List.getElem?_append_left (List.getElem?_eq_some_iff.1 hx).1]; exact hx)⟩
      have HY : Keep (W.rangeAt g2 (o2 + i * 14) (crv x)) := ⟨q2 i x hx⟩
      have HNE : Keep (∀ w, (Op.equalIn 10000 26 (.agg (crv x).toArray) (.agg (crv x).toArray)).run Tryz.prog w = .ok true w) := ⟨fun w => by have q := eqC x x w; rwa [decide_eq_true rfl] at q⟩
      have HIN : Keep (i < nc) := ⟨hlt⟩
      have b1' := (HB.out.boxGet k1m).cellv 4 _ rfl
      clear q1 q2 hx hlt hi b1'
      go_wp2_with fail
      refine region_Y (S := fun w' => Sep W w' (boxA b3 [.int .u64 t2, .slice (some ⟨g2, o2, none⟩) nc cc, .slice az ns cz, iv n2] 37 :: boxA b2 [.int .u64 tick, va, vb, iv nx, .slice (some ⟨g1, o1, none⟩) (nc + 1) kC, .slice aH (ns + 1) kH] 56 :: [])) [] (by kernel_rfl) ?_
      obtain ⟨W0, hW0⟩ : ∃ W_, wr.drew = W_ := ⟨_, rfl⟩
      replace HB := Keep.mk (HB.out.grown (gr_drew _ none))
      rw [hW0] at HB ⊢
      clear hW0
      have hHeld : (fun w' => Sep W w' (boxA b3 [.int .u64 t2, .slice (some ⟨g2, o2, none⟩) nc cc, .slice az ns cz, iv n2] 37 :: boxA b2 [.int .u64 tick, va, vb, iv nx, .slice (some ⟨g1, o1, none⟩) (nc + 1) kC, .slice aH (ns + 1) kH] 56 :: [])) W0 := HB.out
      refine yp (i := 0) (v := ?_) rfl (Or.inl ⟨by rfl, ?_⟩) ?_
      rotate_left
      · (intro w hSw; go_simp; first | done | (with_reducible rfl))
      simp only [Act.put, A1, A3, A4, A5, A6]
      refine yt (i := 1) (v := ?_) rfl (Or.inl ⟨by rfl, ?_⟩) (by assumption) ?_
      rotate_left
      · (intro w hSw; have q := (hSw.boxGet k1m).cellv 4 _ rfl; go_simp; first | done | (with_reducible rfl))
      simp only [Act.put, A1, A2, A3, A4, A5, A6]
      refine yp (i := 2) (v := ?_) rfl (Or.inl ⟨by rfl, ?_⟩) ?_
      rotate_left
      · (intro w hSw; go_simp; first | done | (with_reducible rfl))
      simp only [Act.put, A1, A2, A3, A4, A5, A6]
      refine yp (i := 3) (v := ?_) rfl (Or.inl ⟨by rfl, ?_⟩) ?_
      rotate_left
      · (intro w hSw; go_simp; first | done | (with_reducible rfl))
      simp only [Act.put, A1, A2, A3, A4, A5, A6]
      refine yt (i := 4) (v := .agg (crv x).toArray) rfl (yieldsIf_load_mid (by rfl) 26 _ rfl _ _ rfl _ _ (fun w hSw => fun r u hu => hSw.g.cell (HX.out r u hu) (by simp)) hdc.1 hdc.2 info26) (by assumption) ?_
      simp only [Act.put, A1, A2, A3, A4, A5, A6]
      refine yp (i := 5) (v := ?_) rfl (Or.inl ⟨by rfl, ?_⟩) ?_
      rotate_left
      · (intro w hSw; go_simp; first | done | (with_reducible rfl))
      simp only [Act.put, A1, A2, A3, A4, A5, A6]
      refine yt (i := 6) (v := ?_) rfl (Or.inl ⟨by rfl, ?_⟩) (by assumption) ?_
      rotate_left
      · (intro w hSw; have q := (hSw.boxGet k0m).cellv 1 _ rfl; go_simp; first | done | (with_reducible rfl))
      simp only [Act.put, A1, A2, A3, A4, A5, A6]
      refine yp (i := 7) (v := ?_) rfl (Or.inl ⟨by rfl, ?_⟩) ?_
      rotate_left
      · (intro w hSw; go_simp; first | done | (with_reducible rfl))
      simp only [Act.put, A1, A2, A3, A4, A5, A6]
      refine yp (i := 8) (v := ?_) rfl (Or.inl ⟨by rfl, ?_⟩) ?_
      rotate_left
      · (intro w hSw; go_simp; first | done | (with_reducible rfl))
      simp only [Act.put, A1, A2, A3, A4, A5, A6]
      refine yt (i := 9) (v := .agg (crv x).toArray) rfl (yieldsIf_load_mid (by rfl) 26 _ rfl _ _ rfl _ _ (fun w hSw => fun r u hu => hSw.g.cell (HY.out r u hu) (by simp)) hdc.1 hdc.2 info26) (by assumption) ?_
      simp only [Act.put, A1, A2, A3, A4, A5, A6]
      refine yt (i := 10) (v := .bool false) rfl (Or.inl ⟨by rfl, ?_⟩) (by assumption) ?_
      · (intro w hSw; have q := HNE.out w; go_simp; first | done | rfl | (simp; done) | trace_state)
      simp only [Act.put, A1, A2, A3, A4, A5, A6]
      refine wpAnyY_done (by kernel_rfl) ?_ _
      clear hHeld
      go_wp2_with fail
      go_roundw
      case rel => exact ⟨i + 1, HIN.out, rfl, HB⟩
      case measure => simp [intOf]; have := HIN.out; omega
    · have hlt1 : ¬ (i : Int) < (nc : Int) := by omega
      clear hlt hi
      go_wp2_with fail
      go_loopw [8] (fun u8 wr => ∃ i : Nat, i ≤ ns ∧ u8 = iv i ∧ Keep (Sep W wr (boxA b3 [.int .u64 t2, .slice ac nc cc, .slice az ns cz, iv n2] 37 :: boxA b2 [.int .u64 tick, va, vb, iv nx, .slice aC (nc + 1) kC, .slice aH (ns + 1) kH] 56 :: []))) (fun u8 _ => (ns - intOf u8).toNat)
      case atStart => exact ⟨0, Nat.zero_le _, rfl, HB⟩
      case round =>
        clear HB
        obtain ⟨i, hi, rfl, HB⟩ := hrel
        by_cases hlt : i < ns
        · have hlt1 : (i : Int) < (ns : Int) := by omega
          have hlt2 : (i : Int) < (ns : Int) + 1 := by omega
          have hi0 : (0 : Int) ≤ (i : Int) := by omega
          have hit : ((i : Nat) : Int).toNat = i := by omega
          have hiw : IntKind.i64.wrap ((i : Int) + 1) = ((i + 1 : Nat) : Int) := by rw [IntKind.wrap_i64]; have := HN.out; omega
          obtain ⟨x, hx⟩ : ∃ x, LS[i]? = some x := ⟨_, List.getElem?_eq_getElem (by have := HN.out; omega)⟩
          obtain ⟨g1, o1, e1, q1⟩ := HMH.out (by rw [List.length_append]; exact Nat.lt_of_lt_of_le Nat.one_pos (Nat.le_add_left _ _))
          obtain ⟨g2, o2, e2, q2⟩ := HLS.out (by have := HN.out; omega)
          subst e1 e2
          have HX : Keep (W.rangeAt g1 (o1 + i * 7) (shv x)) := ⟨q1 i x (by rw [List.getElem?_append_left (List.getElem?_eq_some_iff.1 hx).1]; exact hx)⟩
          have HY : Keep (W.rangeAt g2 (o2 + i * 7) (shv x)) := ⟨q2 i x hx⟩
          have HNE : Keep (∀ w, (Op.equalIn 10000 46 (.agg (shv x).toArray) (.agg (shv x).toArray)).run Tryz.prog w = .ok true w) := ⟨fun w => by have q := eqS x x w; rwa [decide_eq_true rfl] at q⟩
          have HIN : Keep (i < ns) := ⟨hlt⟩
          have b1' := (HB.out.boxGet k1m).cellv 5 _ rfl
          clear q1 q2 hx hlt hi b1'
          go_wp2_with fail
          refine region_Y (S := fun w' => Sep W w' (boxA b3 [.int .u64 t2, .slice ac nc cc, .slice (some ⟨g2, o2, none⟩) ns cz, iv n2] 37 :: boxA b2 [.int .u64 tick, va, vb, iv nx, .slice aC (nc + 1) kC, .slice (some ⟨g1, o1, none⟩) (ns + 1) kH] 56 :: [])) [] (by kernel_rfl) ?_
          obtain ⟨W0, hW0⟩ : ∃ W_, wr.drew = W_ := ⟨_, rfl⟩
          replace HB := Keep.mk (HB.out.grown (gr_drew _ none))
          rw [hW0] at HB ⊢
          clear hW0
          have hHeld : (fun w' => Sep W w' (boxA b3 [.int .u64 t2, .slice ac nc cc, .slice (some ⟨g2, o2, none⟩) ns cz, iv n2] 37 :: boxA b2 [.int .u64 tick, va, vb, iv nx, .slice aC (nc + 1) kC, .slice (some ⟨g1, o1, none⟩) (ns + 1) kH] 56 :: [])) W0 := HB.out
          refine yp (i := 0) (v := ?_) rfl (Or.inl ⟨by rfl, ?_⟩) ?_
          rotate_left
          · (intro w hSw; go_simp; first | done | (with_reducible rfl))
          simp only [Act.put, A1, A3, A4, A5, A6]
          refine yt (i := 1) (v := ?_) rfl (Or.inl ⟨by rfl, ?_⟩) (by assumption) ?_
          rotate_left
          · (intro w hSw; have q := (hSw.boxGet k1m).cellv 5 _ rfl; go_simp; first | done | (with_reducible rfl))
          simp only [Act.put, A1, A2, A3, A4, A5, A6]
          refine yp (i := 2) (v := ?_) rfl (Or.inl ⟨by rfl, ?_⟩) ?_
          rotate_left
          · (intro w hSw; go_simp; first | done | (with_reducible rfl))
          simp only [Act.put, A1, A2, A3, A4, A5, A6]
          refine yp (i := 3) (v := ?_) rfl (Or.inl ⟨by rfl, ?_⟩) ?_
          rotate_left
          · (intro w hSw; go_simp; first | done | (with_reducible rfl))
          simp only [Act.put, A1, A2, A3, A4, A5, A6]
          refine yt (i := 4) (v := .agg (shv x).toArray) rfl (yieldsIf_load_mid (by rfl) 46 _ rfl _ _ rfl _ _ (fun w hSw => fun r u hu => hSw.g.cell (HX.out r u hu) (by simp)) hdz.1 hdz.2 info46) (by assumption) ?_
          simp only [Act.put, A1, A2, A3, A4, A5, A6]
          refine yp (i := 5) (v := ?_) rfl (Or.inl ⟨by rfl, ?_⟩) ?_
          rotate_left
          · (intro w hSw; go_simp; first | done | (with_reducible rfl))
          simp only [Act.put, A1, A2, A3, A4, A5, A6]
          refine yt (i := 6) (v := ?_) rfl (Or.inl ⟨by rfl, ?_⟩) (by assumption) ?_
          rotate_left
          · (intro w hSw; have q := (hSw.boxGet k0m).cellv 2 _ rfl; go_simp; first | done | (with_reducible rfl))
          simp only [Act.put, A1, A2, A3, A4, A5, A6]
          refine yp (i := 7) (v := ?_) rfl (Or.inl ⟨by rfl, ?_⟩) ?_
          rotate_left
          · (intro w hSw; go_simp; first | done | (with_reducible rfl))
          simp only [Act.put, A1, A2, A3, A4, A5, A6]
          refine yp (i := 8) (v := ?_) rfl (Or.inl ⟨by rfl, ?_⟩) ?_
          rotate_left
          · (intro w hSw; go_simp; first | done | (with_reducible rfl))
          simp only [Act.put, A1, A2, A3, A4, A5, A6]
          refine yt (i := 9) (v := .agg (shv x).toArray) rfl (yieldsIf_load_mid (by rfl) 46 _ rfl _ _ rfl _ _ (fun w hSw => fun r u hu => hSw.g.cell (HY.out r u hu) (by simp)) hdz.1 hdz.2 info46) (by assumption) ?_
          simp only [Act.put, A1, A2, A3, A4, A5, A6]
          refine yt (i := 10) (v := .bool false) rfl (Or.inl ⟨by rfl, ?_⟩) (by assumption) ?_
          · (intro w hSw; have q := HNE.out w; go_simp; first | done | rfl | (simp; done) | trace_state)
          simp only [Act.put, A1, A2, A3, A4, A5, A6]
          refine wpAnyY_done (by kernel_rfl) ?_ _
          clear hHeld
          go_wp2_with fail
          go_roundw
          case rel => exact ⟨i + 1, HIN.out, rfl, HB⟩
          case measure => simp [intOf]; have := HIN.out; omega
        · have hlt1 : ¬ (i : Int) < (ns : Int) := by omega
          clear hlt hi
          go_wp2_with fail
          go_ret
          exact ⟨rfl, HB.out.g⟩
end Go.Proofs.YtgedlabmndlooaaGreat

namespace Go.Proofs.YtgedlabmndlooaaGreat
open Go Go.RowKit Go.Maps Go.Shelf Go.Lib Go.Sort

/-- what Of answers, at one stroke, all of it told -/
def OfQ (tick : Int) (LC : List Cr) (LS : List Sh) (p radius sho tk : Int) (ow : Cr) (T : List Sn) (cd : Int) : Prop :=
  (LC.find? (fun c => c.pl == p) = none ∧ cd = 210 ∧ T = [] ∧ tk = 0 ∧ ow = zcar) ∨ (∃ own, LC.find? (fun c => c.pl == p) = some own ∧ cd = 0 ∧ ow = own ∧ tk = tick ∧ Tld LC LS radius sho own T)
theorem OfQ.uniq {tick : Int} {LC : List Cr} {LS : List Sh} {p r s tk tk' : Int} {ow ow' : Cr} {T T' : List Sn} {cd cd' : Int} (h : OfQ tick LC LS p r s tk ow T cd) (h' : OfQ tick LC LS p r s tk' ow' T' cd') : tk = tk' ∧ ow = ow' ∧ T = T' ∧ cd = cd' := by
  rcases h with ⟨a, rfl, rfl, rfl, rfl⟩ | ⟨o, a, rfl, rfl, rfl, t⟩ <;> rcases h' with ⟨a', rfl, rfl, rfl, rfl⟩ | ⟨o', a', rfl, rfl, rfl, t'⟩
  · exact ⟨rfl, rfl, rfl, rfl⟩
  · rw [a] at a'; cases a'
  · rw [a] at a'; cases a'
  · rw [a] at a'
    injection a' with a'
    subst a'
    exact ⟨rfl, rfl, t.uniq t', rfl⟩
structure OfV (W W' : World) (tick : Int) (LC : List Cr) (LS : List Sh) (p radius sho : Int) (e : Ending) : Prop where
  o : ∃ (tk : Int) (ow : Cr) (a : Option Addr) (n c : Nat) (T : List Sn) (cd : Int), e = .returned (.tuple #[.agg (vwv tk ow (.slice a n c)).toArray, iv cd]) ∧ T.length = n ∧ n ≤ 32 ∧ Sep W W' [rowV 33 5 (.slice a n c) n (fl snv T)] ∧ OfQ tick LC LS p radius sho tk ow T cd
theorem of_v (W : World) (tick nx p radius sho : Int) (vc vs : Value) (LC : List Cr) (LS : List Sh) (hS : StO W vc vs LC LS) :
    Calls Tryz.prog 12 #[.agg #[.int .u64 tick, vc, vs, iv nx], iv p, iv radius, iv sho] W fun e W' => OfV W W' tick LC LS p radius sho e := by
  refine (of_c W tick nx p radius sho vc vs LC LS hS).mono ?_
  intro e W' h
  cases hfd : LC.find? (fun c => c.pl == p) with
  | none =>
    obtain ⟨rfl, g⟩ := h.no hfd
    exact ⟨0, zcar, none, 0, 0, [], 210, rfl, rfl, by omega, (Sep.start g).nilV 33 5, .inl ⟨hfd, rfl, rfl, rfl, rfl⟩⟩
  | some own =>
    obtain ⟨v, T, rfl, hT, S⟩ := h.yes own hfd
    obtain ⟨a, c, rfl⟩ := own_slice (S.rowGet k0m)
    exact ⟨tick, own, a, T.length, c, T, 0, rfl, rfl, hT.le, S, .inr ⟨own, hfd, rfl, rfl, rfl, hT⟩⟩
/-- a part of a row, as it is read -/
theorem Ls.pre {α : Type} {enc : α → List Value} {k : Nat} (hk : ∀ x, (enc x).length = k) {w0 W : World} {l : List As} {e : TypeId} {g n c : Nat} {L R : List α} (hn : L.length = n) (h : Sep w0 W l) (hm : rowV e k (sl g (n + 1) c) (n + 1) (fl enc (L ++ R)) ∈ l) : Ls enc k W (sl g n c) L := by
  subst hn
  refine ⟨_, c, rfl, fun _ => ⟨g, 0, rfl, fun j x hx => ?_⟩⟩
  rw [Nat.zero_add]
  exact fl_range hk (h.rowGet hm) (Nat.succ_pos _) j x (by rw [List.getElem?_append_left (List.getElem?_eq_some_iff.1 hx).1]; exact hx)
theorem range_pre {W : World} {b : Nat} {xs ys : List Value} (h : W.rangeAt b 0 (xs ++ ys)) : W.rangeAt b 0 xs := fun j u hu =>
  h j u (by rw [List.getElem?_append_left (List.getElem?_eq_some_iff.1 hu).1]; exact hu)
theorem undW : Tryz.prog.underlying 52 = some (.slice 29) := by kernel_rfl
end Go.Proofs.YtgedlabmndlooaaGreat
