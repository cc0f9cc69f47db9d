/- M1, M2, M3, M4, M5, M6 -/
import Derived.Test.YtgedlabmndlooaaGreatF2h
import Derived.ArgAppend
import Derived.Deep.DeepAppendRoom
import Derived.Deep.DeepCutAuto
namespace Go.Proofs.YtgedlabmndlooaaGreat
open Go Go.RowKit Go.Maps Go.Shelf Go.Lib Go.Sort

theorem app_nn' {t e : TypeId} {i : TypeInfo} {s : Nat} (ht : Tryz.prog.underlying t = some (.slice e)) (i1 : Tryz.prog.info? e = some i) (c : Nat) (W : World) (v : Value) (n : Nat) (L : List Value) (h : W.ownsRow 0 e s v n L) : (Builtin.append_ #[t, t] t #[v, .slice none 0 c]).run Tryz.prog W = .ok v W := by
  rcases h.2 with ⟨rfl, rfl⟩ | ⟨g, cap, cur, rfl, _, _, hnc, _⟩
  · simp [Builtin.append_, run_underlying ht, sizeOf, typeInfo, i1, Builtin.lenOf, Builtin.firstCells]
  · simp [Builtin.append_, run_underlying ht, sizeOf, typeInfo, i1, Builtin.lenOf, Builtin.firstCells, hnc, storeCells]
set_option maxRecDepth 100000 in
/-- a list is appended to a row of structs -/
theorem Sep.appLk {α : Type} {enc : α → List Value} {k : Nat} (hk : ∀ x, (enc x).length = k) (hk0 : 0 < k) (hone : ∀ (x : α) u, u ∈ enc x → u.oneCell' = true) {t e : TypeId} {i : TypeInfo} {z : Value} {bytes : Nat} (ht : Tryz.prog.underlying t = some (.slice e)) (hi : Tryz.prog.info? e = some i) (hz : i.zero = some z) (hs : i.size = k) (hby : i.bytes = bytes) (hzs : z.cells.size = k) (hb0 : 0 < bytes)
    {w0 W : World} {l : List As} {v va : Value} {L A : List α} (h : Sep w0 W (rowV e k v L.length (fl enc L) :: l)) (hA : Ls enc k W va A) (hn : (L.length + A.length) * bytes ≤ 140737488355328) :
    ∃ v' W', (Builtin.append_ #[t, t] t #[v, va]).run Tryz.prog W = .ok v' W' ∧ Sep w0 W' (rowV e k v' (L ++ A).length (fl enc (L ++ A)) :: l) := by
  obtain ⟨a, cap, rfl, hv⟩ := hA
  cases a with
  | none =>
    have h0 : A = [] := by
      cases A with
      | nil => rfl
      | cons x r => obtain ⟨g, o, e, _⟩ := hv (by simp); cases e
    subst h0
    refine ⟨v, W, app_nn' ht hi cap W v _ _ (h.rowGet k0m), ?_⟩
    rw [List.append_nil]
    exact h
  | some p =>
    obtain ⟨v', W', r1, S2⟩ := Sep.appF (t := t) ht hi hz hs hby hzs hk0 h p A.length cap (fl enc A) (fl_len hk A) (fun j u hu => by
      have hj := (List.getElem?_eq_some_iff.1 hu).1
      rw [fl_len hk] at hj
      have hA0 : 0 < A.length := by
        rcases Nat.eq_zero_or_pos A.length with q | q
        · rw [q, Nat.zero_mul] at hj; exact absurd hj (Nat.not_lt_zero _)
        · exact q
      obtain ⟨g, o, e, q⟩ := hv hA0
      injection e with e
      subst e
      have hjk : j / k < A.length := Nat.div_lt_of_lt_mul (by rw [Nat.mul_comm]; exact hj)
      have hjr : j / k * k + j % k = j := by rw [Nat.mul_comm]; exact Nat.div_add_mod j k
      have q2 := q (j / k) A[j / k] (List.getElem?_eq_getElem hjk) (j % k) u (by
        have hr : j % k < (enc A[j / k]).length := by rw [hk]; exact Nat.mod_lt _ hk0
        rw [List.getElem?_eq_getElem hr]
        have q3 := fl_get hk A (j / k) A[j / k] (j % k) _ (List.getElem?_eq_getElem hjk) (List.getElem?_eq_getElem hr)
        rw [hjr, hu] at q3
        exact q3.symm)
      rw [Addr.add_mid, show o + j = o + j / k * k + j % k by rw [Nat.add_assoc, hjr]]
      exact q2) (fun u hu => by
        obtain ⟨x, _, hx⟩ := List.mem_flatMap.1 hu
        exact hone x u hx) hn hb0
    refine ⟨v', W', r1, ?_⟩
    rw [fl_app, List.length_append]
    exact S2
theorem Sep.appLC {w0 W : World} {l : List As} {v va : Value} {L A : List Cr} (h : Sep w0 W (rowV 26 14 v L.length (fl crv L) :: l)) (hA : Ls crv 14 W va A) (hn : (L.length + A.length) * 120 ≤ 140737488355328) :
    ∃ v' W', (Builtin.append_ #[34, 34] 34 #[v, va]).run Tryz.prog W = .ok v' W' ∧ Sep w0 W' (rowV 26 14 v' (L ++ A).length (fl crv (L ++ A)) :: l) := by
  obtain ⟨i, i1, i2, i3, i4⟩ := infoBC
  exact Sep.appLk crv_len (by decide) crv_one undSC i1 i4 i2 i3 rfl (by decide) h hA hn
theorem Sep.appLS {w0 W : World} {l : List As} {v va : Value} {L A : List Sh} (h : Sep w0 W (rowV 46 7 v L.length (fl shv L) :: l)) (hA : Ls shv 7 W va A) (hn : (L.length + A.length) * 56 ≤ 140737488355328) :
    ∃ v' W', (Builtin.append_ #[35, 35] 35 #[v, va]).run Tryz.prog W = .ok v' W' ∧ Sep w0 W' (rowV 46 7 v' (L ++ A).length (fl shv (L ++ A)) :: l) := by
  obtain ⟨i, i1, i2, i3, i4⟩ := infoBS
  exact Sep.appLk shv_len (by decide) shv_one undSS i1 i4 i2 i3 rfl (by decide) h hA hn
/-- what stands behind a list that is lent -/
def rmC : Cr := ⟨-71, { data := #[114, 111, 111, 109] }, 0, 0, 0, 0, 0, 0, 0, 0, 0, 0, 0, 0⟩
def rmS : Sh := ⟨-71, 0, 0, 0, 0, 0, 0⟩
theorem builtRC : Tryz.prog.built 26 [(0, iv (-71)), (1, .string { data := #[114, 111, 111, 109] })] = some (crv rmC).toArray := by kernel_rfl
theorem builtRS : Tryz.prog.built 46 [(0, iv (-71))] = some (shv rmS).toArray := by kernel_rfl
theorem built56 (t n : Int) (a b : Option Addr) (m k m' k' : Nat) : Tryz.prog.built 56 [(0, .agg [.int .u64 t, .slice a m m', .slice b k k', iv n].toArray)] = some [.int .u64 t, .slice a m m', .slice b k k', iv n, .slice none 0 0, .slice none 0 0].toArray := by kernel_rfl
theorem info56 : (Tryz.prog.info? 56).map (·.size) = some 6 := by kernel_rfl
theorem under56 : ∃ d, Tryz.prog.underlying 56 = some d ∧ d.isRow = true := ⟨_, Tryz.underlying56, rfl⟩
theorem lnv_one (t n : Int) (a b c d : Option Addr) (m k j i m' k' j' i' : Nat) : ∀ u ∈ [Value.int .u64 t, .slice a m m', .slice b k k', iv n, .slice c j j', .slice d i i'], u.oneCell' = true := by
  intro u hu
  simp only [List.mem_cons, List.not_mem_nil, or_false] at hu
  rcases hu with rfl | rfl | rfl | rfl | rfl | rfl <;> rfl
/-- a state that was lent -/
abbrev ltv (tick nx : Int) (gC kC nc gH kH ns : Nat) : List Value := [.int .u64 tick, sl gC nc kC, sl gH ns kH, iv nx, sl gC (nc + 1) kC, sl gH (ns + 1) kH]
/-- lent -/
structure LtR (W W' : World) (tick nx : Int) (LC : List Cr) (LS : List Sh) (e : Ending) : Prop where
  o : ∃ gC kC gH kH, e = .returned (.agg (ltv tick nx gC kC LC.length gH kH LS.length).toArray) ∧ Sep W W' (rowV 26 14 (sl gC (LC.length + 1) kC) (LC.length + 1) (fl crv (LC ++ [rmC])) :: rowV 46 7 (sl gH (LS.length + 1) kH) (LS.length + 1) (fl shv (LS ++ [rmS])) :: [])
set_option maxRecDepth 100000 in
set_option maxHeartbeats 16000000 in
theorem lent_c (W : World) (tick nx : Int) (vc vs : Value) (LC : List Cr) (LS : List Sh) (hc : Ls crv 14 W vc LC) (hs : Ls shv 7 W vs LS) (hnc : LC.length ≤ 1048576) (hns : LS.length ≤ 1048576) :
    Calls Tryz.prog 19 #[.agg #[.int .u64 tick, vc, vs, iv nx]] W fun e W' => LtR W W' tick nx LC LS e := by
  have HLC := Keep.mk hc
  have HLS := Keep.mk hs
  obtain ⟨ac, cc, rfl, _⟩ := hc
  obtain ⟨az, cz, rfl, _⟩ := hs
  obtain ⟨nc, hncc⟩ : ∃ n, LC.length = n := ⟨_, rfl⟩
  obtain ⟨ns, hnss⟩ : ∃ n, LS.length = n := ⟨_, rfl⟩
  rw [hncc] at HLC hnc ⊢
  rw [hnss] at HLS hns ⊢
  have HN : Keep (LC.length = nc ∧ LS.length = ns ∧ nc ≤ 1048576 ∧ ns ≤ 1048576) := ⟨⟨hncc, hnss, hnc, hns⟩⟩
  have S1 := ((Sep.nil W).newBox #[.int .u64 tick, .slice ac nc cc, .slice az ns cz, iv nx] 37).newBox #[.int .u64 0, .slice none 0 0, .slice none 0 0, iv 0, .slice none 0 0, .slice none 0 0] 56
  simp only [World.size_alloc] at S1
  obtain ⟨b1, hb1⟩ : ∃ b, W.heap.size = b := ⟨_, rfl⟩
  obtain ⟨b2, hb2⟩ : ∃ b, b1 + 1 = b := ⟨_, rfl⟩
  obtain ⟨W1, hW1⟩ : ∃ w, (W.alloc (.cells #[.int .u64 tick, .slice ac nc cc, .slice az ns cz, iv nx] 37)).alloc (.cells #[.int .u64 0, .slice none 0 0, .slice none 0 0, iv 0, .slice none 0 0, .slice none 0 0] 56) = w := ⟨_, rfl⟩
  rw [hW1, hb1, hb2] at S1
  have HB : Keep (Sep W W1 (boxA b2 [.int .u64 0, .slice none 0 0, .slice none 0 0, iv 0, .slice none 0 0, .slice none 0 0] 56 :: boxA b1 [.int .u64 tick, .slice ac nc cc, .slice az ns cz, iv nx] 37 :: [])) := ⟨S1⟩
  obtain ⟨ds, hds⟩ := under37
  obtain ⟨dl, hdl⟩ := under56
  have HR := Keep.mk ((HB.out.boxGet k1m).range)
  have HBU := Keep.mk (built56 tick nx ac az nc ns cc cz)
  clear S1
  go_enter Tryz.func19, Tryz.ntmps19
  go_wp2_with (first
    | (with_reducible show wpList _ _ _ ({ dst := some 4, op := Op.load 37 _, type := _, pos := _, after := _, guard := _ } :: _) _ _
       refine wpList_load_mid rfl 37 _ rfl _ _ rfl ([.int .u64 tick, .slice ac nc cc, .slice az ns cz, iv nx]) _ HR.out hds.1 hds.2 info37 ?_)
    | (with_reducible show wpList _ _ _ ({ dst := some 5, op := Op.build 56 _, type := _, pos := _, after := _, guard := _ } :: _) _ _
       refine wpList_build rfl 56 _ rfl ([.int .u64 tick, .slice ac nc cc, .slice az ns cz, iv nx, .slice none 0 0, .slice none 0 0]).toArray ((congrArg (Tryz.prog.built 56) (by first | (simp only [List.map_toArray, List.map_cons, List.map_nil, Act.eval]; done) | (simp only [List.map_toArray, List.map_cons, List.map_nil, Act.eval]; with_reducible rfl) | (simp only [List.map_toArray, List.map_cons, List.map_nil, Act.eval]; rfl))).trans HBU.out) ?_
       simp only [Act.put, List.setIfInBounds_toArray, List.set_cons_zero, List.set_cons_succ])
    | (with_reducible show wpList _ _ _ ({ dst := _, op := Op.store 56 _ _, type := _, pos := _, after := _, guard := _ } :: _) _ _
       refine store_new W1 ([.int .u64 tick, .slice ac nc cc, .slice az ns cz, iv nx, .slice none 0 0, .slice none 0 0]) 56 rfl rfl rfl rfl rfl info56 (lnv_one _ _ _ _ _ _ _ _ _ _ _ _ _ _) ?_))
  intro W2 hS2 g2
  clear hW1 hb1 hb2 HBU HR
  obtain ⟨b3, hb3⟩ : ∃ b, W1.heap.size = b := ⟨_, rfl⟩
  have S2 := hS2 _ _ HB.out
  rw [hb3] at S2 ⊢
  clear hS2 g2 hb3 HB
  -- region 2
  have f4 := (S2.boxGet k0m).cellv 4 _ rfl
  have f1 := (S2.boxGet k2m).cellv 1 _ rfl
  obtain ⟨v3, W3, ap, S3⟩ := Sep.appLC (L := []) (S2.nilV 26 14) (HLC.out.kept S2.g) (by have := HN.out; simp only [List.length_nil]; omega)
  rw [List.nil_append] at S3
  obtain ⟨a3, c3, rfl⟩ := own_slice (S3.rowGet k0m)
  rw [HN.out.1] at S3 ap
  have AP3 := Keep.mk ap
  have z4 := (S3.boxGet k1m).cellv 4 _ rfl
  have x4 := (S3.boxGet k1m).frozen 4
  have S4 := S3.swap.boxPut 4 (.slice a3 nc c3)
  obtain ⟨W4, hW4⟩ : ∃ w, W3.setCell ⟨b3, 4, none⟩ (.slice a3 nc c3) = w := ⟨_, rfl⟩
  rw [hW4] at S4
  have S4 : Sep W W4 (boxA b3 [.int .u64 tick, .slice ac nc cc, .slice az ns cz, iv nx, .slice a3 nc c3, .slice none 0 0] 56 :: rowV 26 14 (.slice a3 nc c3) nc (fl crv LC) :: boxA b2 [.int .u64 0, .slice none 0 0, .slice none 0 0, iv 0, .slice none 0 0, .slice none 0 0] 56 :: boxA b1 [.int .u64 tick, .slice ac nc cc, .slice az ns cz, iv nx] 37 :: []) := S4
  clear S2 S3 ap
  -- region 3
  have g4 := (S4.boxGet k0m).cellv 4 _ rfl
  obtain ⟨gC, kC, W5, ap, S5⟩ := Sep.appCr (L := LC) rmC (v := .slice a3 nc c3) (by rw [HN.out.1]; exact S4.swap) (by have := HN.out; omega)
  rw [List.length_append, List.length_singleton, HN.out.1] at S5
  rw [HN.out.1] at ap
  have AP5 := Keep.mk ap
  have y4 := (S5.boxGet k1m).cellv 4 _ rfl
  have t4 := (S5.boxGet k1m).frozen 4
  have S6 := S5.swap.boxPut 4 (sl gC (nc + 1) kC)
  obtain ⟨W6, hW6⟩ : ∃ w, W5.setCell ⟨b3, 4, none⟩ (sl gC (nc + 1) kC) = w := ⟨_, rfl⟩
  rw [hW6] at S6
  have S6 : Sep W W6 (boxA b3 [.int .u64 tick, .slice ac nc cc, .slice az ns cz, iv nx, sl gC (nc + 1) kC, .slice none 0 0] 56 :: rowV 26 14 (sl gC (nc + 1) kC) (nc + 1) (fl crv (LC ++ [rmC])) :: boxA b2 [.int .u64 0, .slice none 0 0, .slice none 0 0, iv 0, .slice none 0 0, .slice none 0 0] 56 :: boxA b1 [.int .u64 tick, .slice ac nc cc, .slice az ns cz, iv nx] 37 :: []) := S6
  have hkC := row_cap (S6.rowGet k1m)
  clear S4 S5 ap
  -- region 4
  have f5 := (S6.boxGet k0m).cellv 5 _ rfl
  have f2 := (S6.boxGet k3m).cellv 2 _ rfl
  obtain ⟨v7, W7, ap, S7⟩ := Sep.appLS (L := []) (S6.nilV 46 7) (HLS.out.kept S6.g) (by have := HN.out; simp only [List.length_nil]; omega)
  rw [List.nil_append] at S7
  obtain ⟨a7, c7, rfl⟩ := own_slice (S7.rowGet k0m)
  rw [HN.out.2.1] at S7 ap
  have AP7 := Keep.mk ap
  have z5 := (S7.boxGet k1m).cellv 5 _ rfl
  have x5 := (S7.boxGet k1m).frozen 5
  have S8 := S7.swap.boxPut 5 (.slice a7 ns c7)
  obtain ⟨W8, hW8⟩ : ∃ w, W7.setCell ⟨b3, 5, none⟩ (.slice a7 ns c7) = w := ⟨_, rfl⟩
  rw [hW8] at S8
  have S8 : Sep W W8 (boxA b3 [.int .u64 tick, .slice ac nc cc, .slice az ns cz, iv nx, sl gC (nc + 1) kC, .slice a7 ns c7] 56 :: rowV 46 7 (.slice a7 ns c7) ns (fl shv LS) :: rowV 26 14 (sl gC (nc + 1) kC) (nc + 1) (fl crv (LC ++ [rmC])) :: boxA b2 [.int .u64 0, .slice none 0 0, .slice none 0 0, iv 0, .slice none 0 0, .slice none 0 0] 56 :: boxA b1 [.int .u64 tick, .slice ac nc cc, .slice az ns cz, iv nx] 37 :: []) := S8
  clear S6 S7 ap
  -- region 5
  have g5 := (S8.boxGet k0m).cellv 5 _ rfl
  obtain ⟨gH, kH, W9, ap, S9⟩ := Sep.appSh (L := LS) rmS (v := .slice a7 ns c7) (by rw [HN.out.2.1]; exact S8.swap) (by have := HN.out; omega)
  rw [List.length_append, List.length_singleton, HN.out.2.1] at S9
  rw [HN.out.2.1] at ap
  have AP9 := Keep.mk ap
  have y5 := (S9.boxGet k1m).cellv 5 _ rfl
  have t5 := (S9.boxGet k1m).frozen 5
  have SA := S9.swap.boxPut 5 (sl gH (ns + 1) kH)
  obtain ⟨WA, hWA⟩ : ∃ w, W9.setCell ⟨b3, 5, none⟩ (sl gH (ns + 1) kH) = w := ⟨_, rfl⟩
  rw [hWA] at SA
  have SA : Sep W WA (boxA b3 [.int .u64 tick, .slice ac nc cc, .slice az ns cz, iv nx, sl gC (nc + 1) kC, sl gH (ns + 1) kH] 56 :: rowV 46 7 (sl gH (ns + 1) kH) (ns + 1) (fl shv (LS ++ [rmS])) :: rowV 26 14 (sl gC (nc + 1) kC) (nc + 1) (fl crv (LC ++ [rmC])) :: boxA b2 [.int .u64 0, .slice none 0 0, .slice none 0 0, iv 0, .slice none 0 0, .slice none 0 0] 56 :: boxA b1 [.int .u64 tick, .slice ac nc cc, .slice az ns cz, iv nx] 37 :: []) := SA
  have hkH := row_cap (SA.rowGet k1m)
  clear S8 S9 ap
  -- region 6
  have h4 := (SA.boxGet k0m).cellv 4 _ rfl
  have h1 := (SA.boxGet k4m).cellv 1 _ rfl
  have m1 := (SA.boxGet k0m).cellv 1 _ rfl
  have r1 := (SA.boxGet k0m).frozen 1
  have SB := SA.boxPut 1 (sl gC nc kC)
  obtain ⟨WB, hWB⟩ : ∃ w, WA.setCell ⟨b3, 1, none⟩ (sl gC nc kC) = w := ⟨_, rfl⟩
  rw [hWB] at SB
  have SB : Sep W WB (boxA b3 [.int .u64 tick, sl gC nc kC, .slice az ns cz, iv nx, sl gC (nc + 1) kC, sl gH (ns + 1) kH] 56 :: rowV 46 7 (sl gH (ns + 1) kH) (ns + 1) (fl shv (LS ++ [rmS])) :: rowV 26 14 (sl gC (nc + 1) kC) (nc + 1) (fl crv (LC ++ [rmC])) :: boxA b2 [.int .u64 0, .slice none 0 0, .slice none 0 0, iv 0, .slice none 0 0, .slice none 0 0] 56 :: boxA b1 [.int .u64 tick, .slice ac nc cc, .slice az ns cz, iv nx] 37 :: []) := SB
  have h5 := (SB.boxGet k0m).cellv 5 _ rfl
  have h2 := (SB.boxGet k4m).cellv 2 _ rfl
  have m2 := (SB.boxGet k0m).cellv 2 _ rfl
  have r2 := (SB.boxGet k0m).frozen 2
  have SC := SB.boxPut 2 (sl gH ns kH)
  obtain ⟨WC, hWC⟩ : ∃ w, WB.setCell ⟨b3, 2, none⟩ (sl gH ns kH) = w := ⟨_, rfl⟩
  rw [hWC] at SC
  have SC : Sep W WC (boxA b3 [.int .u64 tick, sl gC nc kC, sl gH ns kH, iv nx, sl gC (nc + 1) kC, sl gH (ns + 1) kH] 56 :: rowV 46 7 (sl gH (ns + 1) kH) (ns + 1) (fl shv (LS ++ [rmS])) :: rowV 26 14 (sl gC (nc + 1) kC) (nc + 1) (fl crv (LC ++ [rmC])) :: boxA b2 [.int .u64 0, .slice none 0 0, .slice none 0 0, iv 0, .slice none 0 0, .slice none 0 0] 56 :: boxA b1 [.int .u64 tick, .slice ac nc cc, .slice az ns cz, iv nx] 37 :: []) := SC
  have HB := Keep.mk SC
  have HR3 := Keep.mk ((SC.boxGet k0m).range)
  have HBC := Keep.mk builtRC
  have HBS := Keep.mk builtRS
  have HGC := Keep.mk (bslc rmC)
  have HGS := Keep.mk (bsls rmS)
  have cC : ((nc : Nat) : Int) ≤ (kC : Int) := by omega
  have cH : ((ns : Nat) : Int) ≤ (kH : Int) := by omega
  clear SA SB SC
  go_wp2_with (first
    | (with_reducible show wpList _ _ _ ({ dst := some 10, op := Op.call { callee := Callee.builtin Builtin.append, args := _, argTypes := _ }, type := _, pos := _, after := _, guard := _ } :: _) _ _
       refine wpList_append_run _ rfl (.tmp 7) (.tmp 9) 34 rfl _ _ rfl rfl AP3.out ?_)
    | (with_reducible show wpList _ _ _ ({ dst := some 14, op := Op.build 26 _, type := _, pos := _, after := _, guard := _ } :: _) _ _
       refine wpList_build rfl 26 _ rfl (crv rmC).toArray ((congrArg (Tryz.prog.built 26) (by first | (simp only [List.map_toArray, List.map_cons, List.map_nil, Act.eval]; done) | (simp only [List.map_toArray, List.map_cons, List.map_nil, Act.eval]; with_reducible rfl) | (simp only [List.map_toArray, List.map_cons, List.map_nil, Act.eval]; rfl))).trans HBC.out) ?_
       simp only [Act.put, List.setIfInBounds_toArray, List.set_cons_zero, List.set_cons_succ])
    | (with_reducible show wpList _ _ _ ({ dst := some 15, op := Op.buildSlice 34 _ _, type := _, pos := _, after := _, guard := _ } :: _) _ _
       refine wpList_bs_run rfl (.tmp 14) 34 rfl _ rfl (HGC.out _) ?_)
    | (with_reducible show wpList _ _ _ ({ dst := some 16, op := Op.call { callee := Callee.builtin Builtin.append, args := _, argTypes := _ }, type := _, pos := _, after := _, guard := _ } :: _) _ _
       refine wpList_append_run _ rfl (.tmp 13) (.tmp 15) 34 rfl _ _ rfl rfl AP5.out ?_)
    | (with_reducible show wpList _ _ _ ({ dst := some 22, op := Op.call { callee := Callee.builtin Builtin.append, args := _, argTypes := _ }, type := _, pos := _, after := _, guard := _ } :: _) _ _
       refine wpList_append_run _ rfl (.tmp 19) (.tmp 21) 35 rfl _ _ rfl rfl AP7.out ?_)
    | (with_reducible show wpList _ _ _ ({ dst := some 26, op := Op.build 46 _, type := _, pos := _, after := _, guard := _ } :: _) _ _
       refine wpList_build rfl 46 _ rfl (shv rmS).toArray ((congrArg (Tryz.prog.built 46) (by first | (simp only [List.map_toArray, List.map_cons, List.map_nil, Act.eval]; done) | (simp only [List.map_toArray, List.map_cons, List.map_nil, Act.eval]; with_reducible rfl) | (simp only [List.map_toArray, List.map_cons, List.map_nil, Act.eval]; rfl))).trans HBS.out) ?_
       simp only [Act.put, List.setIfInBounds_toArray, List.set_cons_zero, List.set_cons_succ])
    | (with_reducible show wpList _ _ _ ({ dst := some 27, op := Op.buildSlice 35 _ _, type := _, pos := _, after := _, guard := _ } :: _) _ _
       refine wpList_bs_run rfl (.tmp 26) 35 rfl _ rfl (HGS.out _) ?_)
    | (with_reducible show wpList _ _ _ ({ dst := some 28, op := Op.call { callee := Callee.builtin Builtin.append, args := _, argTypes := _ }, type := _, pos := _, after := _, guard := _ } :: _) _ _
       refine wpList_append_run _ rfl (.tmp 25) (.tmp 27) 35 rfl _ _ rfl rfl AP9.out ?_)
    | (with_reducible show wpList _ _ _ ({ dst := some 46, op := Op.load 56 _, type := _, pos := _, after := _, guard := _ } :: _) _ _
       refine wpList_load_mid rfl 56 _ rfl _ _ rfl ([.int .u64 tick, sl gC nc kC, sl gH ns kH, iv nx, sl gC (nc + 1) kC, sl gH (ns + 1) kH]) _ HR3.out hdl.1 hdl.2 info56 ?_)
    | (with_reducible show wpList _ _ _ ({ dst := _, op := Op.store 56 _ _, type := _, pos := _, after := _, guard := _ } :: _) _ _
       refine store_at WC b2 0 [.int .u64 0, .slice none 0 0, .slice none 0 0, iv 0, .slice none 0 0, .slice none 0 0] [.int .u64 tick, sl gC nc kC, sl gH ns kH, iv nx, sl gC (nc + 1) kC, sl gH (ns + 1) kH] 56 56 rfl rfl rfl rfl (HB.out.boxGet k3m) (Nat.le_refl _) info56 (lnv_one _ _ _ _ _ _ _ _ _ _ _ _ _ _) ?_))
  intro WD hSD gD
  have SD := hSD _ _ (fr1 [_, _, _] HB.out)
  have SD : Sep W WD (boxA b2 [.int .u64 tick, sl gC nc kC, sl gH ns kH, iv nx, sl gC (nc + 1) kC, sl gH (ns + 1) kH] 56 :: boxA b3 [.int .u64 tick, sl gC nc kC, sl gH ns kH, iv nx, sl gC (nc + 1) kC, sl gH (ns + 1) kH] 56 :: rowV 46 7 (sl gH (ns + 1) kH) (ns + 1) (fl shv (LS ++ [rmS])) :: rowV 26 14 (sl gC (nc + 1) kC) (nc + 1) (fl crv (LC ++ [rmC])) :: boxA b1 [.int .u64 tick, .slice ac nc cc, .slice az ns cz, iv nx] 37 :: []) := SD
  have HD := Keep.mk SD
  clear hSD gD SD
  clear hW4 hW6 hW8 hWA hWB hWC f4 f1 z4 x4 g4 y4 t4 f5 f2 z5 x5 g5 y5 t5 h4 h1 m1 r1 h5 h2 m2 r2
  go_wp2_with fail
  refine ret_c rfl rfl (HD.out.boxGet k0m) hdl.1 hdl.2 info56 rfl ?_
  refine ⟨⟨gC, kC, gH, kH, ?_, ?_⟩⟩
  · rw [HN.out.1, HN.out.2.1]
  · rw [HN.out.1, HN.out.2.1]
    exact Sep.dropM (l := []) [_, _] [_] HD.out.tail.tail.swap
end Go.Proofs.YtgedlabmndlooaaGreat

namespace Go.Proofs.YtgedlabmndlooaaGreat
open Go Go.RowKit Go.Maps Go.Shelf Go.Lib Go.Sort

set_option maxRecDepth 100000 in
set_option maxHeartbeats 16000000 in
theorem eqS (x y : Sh) (w : World) : (Op.equalIn 10000 46 (.agg (shv x).toArray) (.agg (shv y).toArray)).run Tryz.prog w = .ok (decide (x = y)) w := by
  rw [show (10000 : Nat) = 9999 + 1 from rfl, run_equalIn_agg w 9999 46 _ _ (by kernel_rfl) (by kernel_rfl)]
  obtain ⟨a1, a2, a3, a4, a5, a6, a7⟩ := x
  obtain ⟨b1, b2, b3, b4, b5, b6, b7⟩ := y
  unfold shv
  have u3 := Tryz.underlying3
  have g3 := Tryz.isAgg3
  have z3 := Tryz.sizeOf3
  have a24 := Tryz.isAgg24
  have z24 := Tryz.sizeOf24
  have ev : ∀ w, (Op.equalIn 9999 24 (.agg #[iv a3, iv a4]) (.agg #[iv b3, iv b4])).run Tryz.prog w = .ok (decide (a3 = b3 ∧ a4 = b4)) w := fun w => eqV 9997 a3 a4 b3 b4 w
  have ev2 : ∀ w, (Op.equalIn 9999 24 (.agg #[iv a5, iv a6]) (.agg #[iv b5, iv b6])).run Tryz.prog w = .ok (decide (a5 = b5 ∧ a6 = b6)) w := fun w => eqV 9997 a5 a6 b5 b6 w
  simp only [Program.fieldsOf, Tryz.underlying46]
  go_simp
  exact ite_dec (ite_dec (ite_vec (ite_vec ite_end)))
set_option maxRecDepth 100000 in
set_option maxHeartbeats 16000000 in
theorem still_c (W : World) (tick nx t2 n2 : Int) (va vb vC vH vc vs : Value) (LC : List Cr) (LS : List Sh) (hC : Ls crv 14 W vC (LC ++ [rmC])) (hH : Ls shv 7 W vH (LS ++ [rmS])) (hc : Ls crv 14 W vc LC) (hs : Ls shv 7 W vs LS) (hnc : LC.length ≤ 1048576) (hns : LS.length ≤ 1048576) :
    Calls Tryz.prog 23 #[.agg #[.int .u64 tick, va, vb, iv nx, vC, vH], .agg #[.int .u64 t2, vc, vs, iv n2]] W fun e W' => e = .returned (.bool true) ∧ W.grownBy W' none := by
  obtain ⟨ac, cc, rfl, hc⟩ := hc
  obtain ⟨az, cz, rfl, hs⟩ := hs
  obtain ⟨aC, kC, rfl, hC⟩ := hC
  obtain ⟨aH, kH, rfl, hH⟩ := hH
  have HLC := Keep.mk hc
  have HLS := Keep.mk hs
  have HMC := Keep.mk hC
  have HMH := Keep.mk hH
  rw [List.length_append, List.length_singleton, List.length_append, List.length_singleton]
  obtain ⟨nc, hncc⟩ : ∃ n, LC.length = n := ⟨_, rfl⟩
  obtain ⟨ns, hnss⟩ : ∃ n, LS.length = n := ⟨_, rfl⟩
  rw [hncc] at hnc ⊢
  rw [hnss] at hns ⊢
  obtain ⟨gC, oC, eC, qC⟩ := hC (by simp)
  obtain ⟨gH, oH, eH, qH⟩ := hH (by simp)
  have hRC : W.rangeAt gC (oC + nc * 14) (crv rmC) := qC nc rmC (by rw [List.getElem?_append_right (by omega), hncc, Nat.sub_self]; rfl)
  have hRH : W.rangeAt gH (oH + ns * 7) (shv rmS) := qH ns rmS (by rw [List.getElem?_append_right (by omega), hnss, Nat.sub_self]; rfl)
  have HN : Keep (LC.length = nc ∧ LS.length = ns ∧ nc ≤ 1048576 ∧ ns ≤ 1048576) := ⟨⟨hncc, hnss, hnc, hns⟩⟩
  have HEA : Keep (aC = some ⟨gC, oC, none⟩ ∧ aH = some ⟨gH, oH, none⟩) := ⟨⟨eC, eH⟩⟩
  have S1 := ((Sep.nil W).newBox #[.int .u64 tick, va, vb, iv nx, .slice aC (nc + 1) kC, .slice aH (ns + 1) kH] 56).newBox #[.int .u64 t2, .slice ac nc cc, .slice az ns cz, iv n2] 37
  simp only [World.size_alloc] at S1
  obtain ⟨b2, hb2⟩ : ∃ b, W.heap.size = b := ⟨_, rfl⟩
  obtain ⟨b3, hb3⟩ : ∃ b, b2 + 1 = b := ⟨_, rfl⟩
  obtain ⟨W1, hW1⟩ : ∃ w, (W.alloc (.cells #[.int .u64 tick, va, vb, iv nx, .slice aC (nc + 1) kC, .slice aH (ns + 1) kH] 56)).alloc (.cells #[.int .u64 t2, .slice ac nc cc, .slice az ns cz, iv n2] 37) = w := ⟨_, rfl⟩
  rw [hW1, hb2, hb3] at S1
  have HB : Keep (Sep W W1 (boxA b3 [.int .u64 t2, .slice ac nc cc, .slice az ns cz, iv n2] 37 :: boxA b2 [.int .u64 tick, va, vb, iv nx, .slice aC (nc + 1) kC, .slice aH (ns + 1) kH] 56 :: [])) := ⟨S1⟩
  obtain ⟨dc, hdc⟩ := under26
  obtain ⟨dz, hdz⟩ := under46
  have HRC : Keep (W1.rangeAt gC (oC + nc * 14) (crv rmC)) := ⟨fun r u hu => S1.g.cell (hRC r u hu) (by simp)⟩
  have HRH : Keep (W1.rangeAt gH (oH + ns * 7) (shv rmS)) := ⟨fun r u hu => S1.g.cell (hRH r u hu) (by simp)⟩
  have k4 := (S1.boxGet k1m).cellv 4 _ rfl
  have k5 := (S1.boxGet k1m).cellv 5 _ rfl
  have k1 := (S1.boxGet k0m).cellv 1 _ rfl
  have k2 := (S1.boxGet k0m).cellv 2 _ rfl
  rw [eC] at k4
  rw [eH] at k5
  have hwc : IntKind.i64.wrap ((nc : Int) + 1) = ((nc + 1 : Nat) : Int) := by rw [IntKind.wrap_i64]; omega
  have hws : IntKind.i64.wrap ((ns : Int) + 1) = ((ns + 1 : Nat) : Int) := by rw [IntKind.wrap_i64]; omega
  have c0 : (0 : Int) ≤ (nc : Int) := by omega
  have s0 : (0 : Int) ≤ (ns : Int) := by omega
  have c1 : (nc : Int) < ((nc + 1 : Nat) : Int) := by omega
  have s1 : (ns : Int) < ((ns + 1 : Nat) : Int) := by omega
  have ct : ((nc : Nat) : Int).toNat = nc := by omega
  have st : ((ns : Nat) : Int).toNat = ns := by omega
  have HBC := Keep.mk builtRC
  have HBS := Keep.mk builtRS
  have neC : ∀ w, (Op.equalIn 10000 26 (.agg (crv rmC).toArray) (.agg (crv rmC).toArray)).run Tryz.prog w = .ok true w := fun w => by have q := eqC rmC rmC w; rwa [decide_eq_true rfl] at q
  have neS : ∀ w, (Op.equalIn 10000 46 (.agg (shv rmS).toArray) (.agg (shv rmS).toArray)).run Tryz.prog w = .ok true w := fun w => by have q := eqS rmS rmS w; rwa [decide_eq_true rfl] at q
  clear S1 hc hs hC hH qC qH hRC hRH hncc hnss hnc hns eC eH
  go_enter Tryz.func23, Tryz.ntmps23
  go_wp2_with (first
    | (with_reducible show wpList _ _ _ ({ dst := some 34, op := Op.load 26 _, type := _, pos := _, after := _, guard := _ } :: _) _ _
       refine load_g rfl 26 _ rfl _ _ rfl (crv rmC) _ HRC.out hdc.1 hdc.2 info26 ?_)
    | (with_reducible show wpList _ _ _ ({ dst := some 43, op := Op.load 46 _, type := _, pos := _, after := _, guard := _ } :: _) _ _
       refine load_g rfl 46 _ rfl _ _ rfl (shv rmS) _ HRH.out hdz.1 hdz.2 info46 ?_)
    | (with_reducible show wpList _ _ _ ({ dst := some 35, op := Op.build 26 _, type := _, pos := _, after := _, guard := _ } :: _) _ _
       refine build_g rfl 26 _ rfl (crv rmC).toArray ((congrArg (Tryz.prog.built 26) (by first | (simp only [List.map_toArray, List.map_cons, List.map_nil, Act.eval]; done) | (simp only [List.map_toArray, List.map_cons, List.map_nil, Act.eval]; with_reducible rfl) | (simp only [List.map_toArray, List.map_cons, List.map_nil, Act.eval]; rfl))).trans HBC.out) ?_
       simp only [Act.put, List.setIfInBounds_toArray, List.set_cons_zero, List.set_cons_succ])
    | (with_reducible show wpList _ _ _ ({ dst := some 44, op := Op.build 46 _, type := _, pos := _, after := _, guard := _ } :: _) _ _
       refine build_g rfl 46 _ rfl (shv rmS).toArray ((congrArg (Tryz.prog.built 46) (by first | (simp only [List.map_toArray, List.map_cons, List.map_nil, Act.eval]; done) | (simp only [List.map_toArray, List.map_cons, List.map_nil, Act.eval]; with_reducible rfl) | (simp only [List.map_toArray, List.map_cons, List.map_nil, Act.eval]; rfl))).trans HBS.out) ?_
       simp only [Act.put, List.setIfInBounds_toArray, List.set_cons_zero, List.set_cons_succ]))
  clear hW1 hb2 hb3 k4 k5 k1 k2 hwc hws c0 s0 c1 s1 ct st neC neS HBC HBS HRC HRH HEA
  go_loopw [7] (fun u7 wr => ∃ i : Nat, i ≤ nc ∧ u7 = iv i ∧ Keep (Sep W wr (boxA b3 [.int .u64 t2, .slice ac nc cc, .slice az ns cz, iv n2] 37 :: boxA b2 [.int .u64 tick, va, vb, iv nx, .slice aC (nc + 1) kC, .slice aH (ns + 1) kH] 56 :: []))) (fun u7 _ => (nc - intOf u7).toNat)
  case atStart => exact ⟨0, Nat.zero_le _, rfl, HB⟩
  case round =>
    clear HB
    obtain ⟨i, hi, rfl, HB⟩ := hrel
    by_cases hlt : i < nc
    · have hlt1 : (i : Int) < (nc : Int) := by omega
      have hlt2 : (i : Int) < (nc : Int) + 1 := by omega
      have hi0 : (0 : Int) ≤ (i : Int) := by omega
      have hit : ((i : Nat) : Int).toNat = i := by omega
      have hiw : IntKind.i64.wrap ((i : Int) + 1) = ((i + 1 : Nat) : Int) := by rw [IntKind.wrap_i64]; have := HN.out; omega
      obtain ⟨x, hx⟩ : ∃ x, LC[i]? = some x := ⟨_, List.getElem?_eq_getElem (by have := HN.out; omega)⟩
      obtain ⟨g1, o1, e1, q1⟩ := HMC.out (by rw [List.length_append]; exact Nat.lt_of_lt_of_le Nat.one_pos (Nat.le_add_left _ _))
      obtain ⟨g2, o2, e2, q2⟩ := HLC.out (by have := HN.out; omega)
      subst e1 e2
      have HX : Keep (W.rangeAt g1 (o1 + i * 14) (crv x)) := ⟨q1 i x (by rw [List.getElem?_append_left (List.getElem?_eq_some_iff.1 hx).1]; exact hx)⟩
      have HY : Keep (W.rangeAt g2 (o2 + i * 14) (crv x)) := ⟨q2 i x hx⟩
      have HNE : Keep (∀ w, (Op.equalIn 10000 26 (.agg (crv x).toArray) (.agg (crv x).toArray)).run Tryz.prog w = .ok true w) := ⟨fun w => by have q := eqC x x w; rwa [decide_eq_true rfl] at q⟩
      have HIN : Keep (i < nc) := ⟨hlt⟩
      have b1' := (HB.out.boxGet k1m).cellv 4 _ rfl
      clear q1 q2 hx hlt hi b1'
      go_wp2_with fail
      refine region_Y (S := fun w' => Sep W w' (boxA b3 [.int .u64 t2, .slice (some ⟨g2, o2, none⟩) nc cc, .slice az ns cz, iv n2] 37 :: boxA b2 [.int .u64 tick, va, vb, iv nx, .slice (some ⟨g1, o1, none⟩) (nc + 1) kC, .slice aH (ns + 1) kH] 56 :: [])) [] (by kernel_rfl) ?_
      obtain ⟨W0, hW0⟩ : ∃ W_, wr.drew = W_ := ⟨_, rfl⟩
      replace HB := Keep.mk (HB.out.grown (gr_drew _ none))
      rw [hW0] at HB ⊢
      clear hW0
      have hHeld : (fun w' => Sep W w' (boxA b3 [.int .u64 t2, .slice (some ⟨g2, o2, none⟩) nc cc, .slice az ns cz, iv n2] 37 :: boxA b2 [.int .u64 tick, va, vb, iv nx, .slice (some ⟨g1, o1, none⟩) (nc + 1) kC, .slice aH (ns + 1) kH] 56 :: [])) W0 := HB.out
      refine wpAnyY_pure (i := 0) (oi := _) (v := ?_) rfl (by kernel_rfl) (by kernel_rfl) (by kernel_rfl) (by kernel_rfl) (fun _ _ _ h => h) (Or.inl ⟨by rfl, ?_⟩) ?_
      rotate_left
      · (intro w hSw; go_simp; first | done | (with_reducible rfl))
      simp only [Act.put, List.getElem_toArray, List.getElem_cons_zero, List.setIfInBounds_toArray, List.set_cons_zero, List.set_cons_succ]
      refine wpAnyY_take (i := 1) (oi := _) (v := ?_) rfl (by kernel_rfl) (by kernel_rfl) (by kernel_rfl) (by kernel_rfl) (by kernel_rfl) (fun _ _ _ h => h) (Or.inl ⟨by rfl, ?_⟩) (by assumption) ?_
      rotate_left
      · (intro w hSw; have q := (hSw.boxGet k1m).cellv 4 _ rfl; go_simp; first | done | (with_reducible rfl))
      simp only [Act.put, List.getElem_toArray, List.getElem_cons_succ, List.getElem_cons_zero, List.setIfInBounds_toArray, List.set_cons_zero, List.set_cons_succ]
      refine wpAnyY_pure (i := 2) (oi := _) (v := ?_) rfl (by kernel_rfl) (by kernel_rfl) (by kernel_rfl) (by kernel_rfl) (fun _ _ _ h => h) (Or.inl ⟨by rfl, ?_⟩) ?_
      rotate_left
      · (intro w hSw; go_simp; first | done | (with_reducible rfl))
      simp only [Act.put, List.getElem_toArray, List.getElem_cons_succ, List.getElem_cons_zero, List.setIfInBounds_toArray, List.set_cons_zero, List.set_cons_succ]
      refine wpAnyY_pure (i := 3) (oi := _) (v := ?_) rfl (by kernel_rfl) (by kernel_rfl) (by kernel_rfl) (by kernel_rfl) (fun _ _ _ h => h) (Or.inl ⟨by rfl, ?_⟩) ?_
      rotate_left
      · (intro w hSw; go_simp; first | done | (with_reducible rfl))
      simp only [Act.put, List.getElem_toArray, List.getElem_cons_succ, List.getElem_cons_zero, List.setIfInBounds_toArray, List.set_cons_zero, List.set_cons_succ]
      refine wpAnyY_take (i := 4) (oi := _) (v := .agg (crv x).toArray) rfl (by kernel_rfl) (by kernel_rfl) (by kernel_rfl) (by kernel_rfl) (by kernel_rfl) (fun _ _ _ h => h) (yieldsIf_load_mid (by rfl) 26 _ rfl _ _ rfl _ _ (fun w hSw => fun r u hu => hSw.g.cell (HX.out r u hu) (by simp)) hdc.1 hdc.2 info26) (by assumption) ?_
      simp only [Act.put, List.getElem_toArray, List.getElem_cons_succ, List.getElem_cons_zero, List.setIfInBounds_toArray, List.set_cons_zero, List.set_cons_succ]
      refine wpAnyY_pure (i := 5) (oi := _) (v := ?_) rfl (by kernel_rfl) (by kernel_rfl) (by kernel_rfl) (by kernel_rfl) (fun _ _ _ h => h) (Or.inl ⟨by rfl, ?_⟩) ?_
      rotate_left
      · (intro w hSw; go_simp; first | done | (with_reducible rfl))
      simp only [Act.put, List.getElem_toArray, List.getElem_cons_succ, List.getElem_cons_zero, List.setIfInBounds_toArray, List.set_cons_zero, List.set_cons_succ]
      refine wpAnyY_take (i := 6) (oi := _) (v := ?_) rfl (by kernel_rfl) (by kernel_rfl) (by kernel_rfl) (by kernel_rfl) (by kernel_rfl) (fun _ _ _ h => h) (Or.inl ⟨by rfl, ?_⟩) (by assumption) ?_
      rotate_left
      · (intro w hSw; have q := (hSw.boxGet k0m).cellv 1 _ rfl; go_simp; first | done | (with_reducible rfl))
      simp only [Act.put, List.getElem_toArray, List.getElem_cons_succ, List.getElem_cons_zero, List.setIfInBounds_toArray, List.set_cons_zero, List.set_cons_succ]
      refine wpAnyY_pure (i := 7) (oi := _) (v := ?_) rfl (by kernel_rfl) (by kernel_rfl) (by kernel_rfl) (by kernel_rfl) (fun _ _ _ h => h) (Or.inl ⟨by rfl, ?_⟩) ?_
      rotate_left
      · (intro w hSw; go_simp; first | done | (with_reducible rfl))
      simp only [Act.put, List.getElem_toArray, List.getElem_cons_succ, List.getElem_cons_zero, List.setIfInBounds_toArray, List.set_cons_zero, List.set_cons_succ]
      refine wpAnyY_pure (i := 8) (oi := _) (v := ?_) rfl (by kernel_rfl) (by kernel_rfl) (by kernel_rfl) (by kernel_rfl) (fun _ _ _ h => h) (Or.inl ⟨by rfl, ?_⟩) ?_
      rotate_left
      · (intro w hSw; go_simp; first | done | (with_reducible rfl))
      simp only [Act.put, List.getElem_toArray, List.getElem_cons_succ, List.getElem_cons_zero, List.setIfInBounds_toArray, List.set_cons_zero, List.set_cons_succ]
      refine wpAnyY_take (i := 9) (oi := _) (v := .agg (crv x).toArray) rfl (by kernel_rfl) (by kernel_rfl) (by kernel_rfl) (by kernel_rfl) (by kernel_rfl) (fun _ _ _ h => h) (yieldsIf_load_mid (by rfl) 26 _ rfl _ _ rfl _ _ (fun w hSw => fun r u hu => hSw.g.cell (HY.out r u hu) (by simp)) hdc.1 hdc.2 info26) (by assumption) ?_
      simp only [Act.put, List.getElem_toArray, List.getElem_cons_succ, List.getElem_cons_zero, List.setIfInBounds_toArray, List.set_cons_zero, List.set_cons_succ]
      refine wpAnyY_take (i := 10) (oi := _) (v := .bool false) rfl (by kernel_rfl) (by kernel_rfl) (by kernel_rfl) (by kernel_rfl) (by kernel_rfl) (fun _ _ _ h => h) (Or.inl ⟨by rfl, ?_⟩) (by assumption) ?_
      · (intro w hSw; have q := HNE.out w; go_simp; first | done | rfl | (simp; done) | trace_state)
      simp only [Act.put, List.getElem_toArray, List.getElem_cons_succ, List.getElem_cons_zero, List.setIfInBounds_toArray, List.set_cons_zero, List.set_cons_succ]
      refine wpAnyY_done (by kernel_rfl) ?_ _
      clear hHeld
      go_wp2_with fail
      go_roundw
      case rel => exact ⟨i + 1, HIN.out, rfl, HB⟩
      case measure => simp [intOf]; have := HIN.out; omega
    · have hlt1 : ¬ (i : Int) < (nc : Int) := by omega
      clear hlt hi
      go_wp2_with fail
      go_loopw [8] (fun u8 wr => ∃ i : Nat, i ≤ ns ∧ u8 = iv i ∧ Keep (Sep W wr (boxA b3 [.int .u64 t2, .slice ac nc cc, .slice az ns cz, iv n2] 37 :: boxA b2 [.int .u64 tick, va, vb, iv nx, .slice aC (nc + 1) kC, .slice aH (ns + 1) kH] 56 :: []))) (fun u8 _ => (ns - intOf u8).toNat)
      case atStart => exact ⟨0, Nat.zero_le _, rfl, HB⟩
      case round =>
        clear HB
        obtain ⟨i, hi, rfl, HB⟩ := hrel
        by_cases hlt : i < ns
        · have hlt1 : (i : Int) < (ns : Int) := by omega
          have hlt2 : (i : Int) < (ns : Int) + 1 := by omega
          have hi0 : (0 : Int) ≤ (i : Int) := by omega
          have hit : ((i : Nat) : Int).toNat = i := by omega
          have hiw : IntKind.i64.wrap ((i : Int) + 1) = ((i + 1 : Nat) : Int) := by rw [IntKind.wrap_i64]; have := HN.out; omega
          obtain ⟨x, hx⟩ : ∃ x, LS[i]? = some x := ⟨_, List.getElem?_eq_getElem (by have := HN.out; omega)⟩
          obtain ⟨g1, o1, e1, q1⟩ := HMH.out (by rw [List.length_append]; exact Nat.lt_of_lt_of_le Nat.one_pos (Nat.le_add_left _ _))
          obtain ⟨g2, o2, e2, q2⟩ := HLS.out (by have := HN.out; omega)
          subst e1 e2
          have HX : Keep (W.rangeAt g1 (o1 + i * 7) (shv x)) := ⟨q1 i x (by rw [List.getElem?_append_left (List.getElem?_eq_some_iff.1 hx).1]; exact hx)⟩
          have HY : Keep (W.rangeAt g2 (o2 + i * 7) (shv x)) := ⟨q2 i x hx⟩
          have HNE : Keep (∀ w, (Op.equalIn 10000 46 (.agg (shv x).toArray) (.agg (shv x).toArray)).run Tryz.prog w = .ok true w) := ⟨fun w => by have q := eqS x x w; rwa [decide_eq_true rfl] at q⟩
          have HIN : Keep (i < ns) := ⟨hlt⟩
          have b1' := (HB.out.boxGet k1m).cellv 5 _ rfl
          clear q1 q2 hx hlt hi b1'
          go_wp2_with fail
          refine region_Y (S := fun w' => Sep W w' (boxA b3 [.int .u64 t2, .slice ac nc cc, .slice (some ⟨g2, o2, none⟩) ns cz, iv n2] 37 :: boxA b2 [.int .u64 tick, va, vb, iv nx, .slice aC (nc + 1) kC, .slice (some ⟨g1, o1, none⟩) (ns + 1) kH] 56 :: [])) [] (by kernel_rfl) ?_
          obtain ⟨W0, hW0⟩ : ∃ W_, wr.drew = W_ := ⟨_, rfl⟩
          replace HB := Keep.mk (HB.out.grown (gr_drew _ none))
          rw [hW0] at HB ⊢
          clear hW0
          have hHeld : (fun w' => Sep W w' (boxA b3 [.int .u64 t2, .slice ac nc cc, .slice (some ⟨g2, o2, none⟩) ns cz, iv n2] 37 :: boxA b2 [.int .u64 tick, va, vb, iv nx, .slice aC (nc + 1) kC, .slice (some ⟨g1, o1, none⟩) (ns + 1) kH] 56 :: [])) W0 := HB.out
          refine wpAnyY_pure (i := 0) (oi := _) (v := ?_) rfl (by kernel_rfl) (by kernel_rfl) (by kernel_rfl) (by kernel_rfl) (fun _ _ _ h => h) (Or.inl ⟨by rfl, ?_⟩) ?_
          rotate_left
          · (intro w hSw; go_simp; first | done | (with_reducible rfl))
          simp only [Act.put, List.getElem_toArray, List.getElem_cons_zero, List.setIfInBounds_toArray, List.set_cons_zero, List.set_cons_succ]
          refine wpAnyY_take (i := 1) (oi := _) (v := ?_) rfl (by kernel_rfl) (by kernel_rfl) (by kernel_rfl) (by kernel_rfl) (by kernel_rfl) (fun _ _ _ h => h) (Or.inl ⟨by rfl, ?_⟩) (by assumption) ?_
          rotate_left
          · (intro w hSw; have q := (hSw.boxGet k1m).cellv 5 _ rfl; go_simp; first | done | (with_reducible rfl))
          simp only [Act.put, List.getElem_toArray, List.getElem_cons_succ, List.getElem_cons_zero, List.setIfInBounds_toArray, List.set_cons_zero, List.set_cons_succ]
          refine wpAnyY_pure (i := 2) (oi := _) (v := ?_) rfl (by kernel_rfl) (by kernel_rfl) (by kernel_rfl) (by kernel_rfl) (fun _ _ _ h => h) (Or.inl ⟨by rfl, ?_⟩) ?_
          rotate_left
          · (intro w hSw; go_simp; first | done | (with_reducible rfl))
          simp only [Act.put, List.getElem_toArray, List.getElem_cons_succ, List.getElem_cons_zero, List.setIfInBounds_toArray, List.set_cons_zero, List.set_cons_succ]
          refine wpAnyY_pure (i := 3) (oi := _) (v := ?_) rfl (by kernel_rfl) (by kernel_rfl) (by kernel_rfl) (by kernel_rfl) (fun _ _ _ h => h) (Or.inl ⟨by rfl, ?_⟩) ?_
          rotate_left
          · (intro w hSw; go_simp; first | done | (with_reducible rfl))
          simp only [Act.put, List.getElem_toArray, List.getElem_cons_succ, List.getElem_cons_zero, List.setIfInBounds_toArray, List.set_cons_zero, List.set_cons_succ]
          refine wpAnyY_take (i := 4) (oi := _) (v := .agg (shv x).toArray) rfl (by kernel_rfl) (by kernel_rfl) (by kernel_rfl) (by kernel_rfl) (by kernel_rfl) (fun _ _ _ h => h) (yieldsIf_load_mid (by rfl) 46 _ rfl _ _ rfl _ _ (fun w hSw => fun r u hu => hSw.g.cell (HX.out r u hu) (by simp)) hdz.1 hdz.2 info46) (by assumption) ?_
          simp only [Act.put, List.getElem_toArray, List.getElem_cons_succ, List.getElem_cons_zero, List.setIfInBounds_toArray, List.set_cons_zero, List.set_cons_succ]
          refine wpAnyY_pure (i := 5) (oi := _) (v := ?_) rfl (by kernel_rfl) (by kernel_rfl) (by kernel_rfl) (by kernel_rfl) (fun _ _ _ h => h) (Or.inl ⟨by rfl, ?_⟩) ?_
          rotate_left
          · (intro w hSw; go_simp; first | done | (with_reducible rfl))
          simp only [Act.put, List.getElem_toArray, List.getElem_cons_succ, List.getElem_cons_zero, List.setIfInBounds_toArray, List.set_cons_zero, List.set_cons_succ]
          refine wpAnyY_take (i := 6) (oi := _) (v := ?_) rfl (by kernel_rfl) (by kernel_rfl) (by kernel_rfl) (by kernel_rfl) (by kernel_rfl) (fun _ _ _ h => h) (Or.inl ⟨by rfl, ?_⟩) (by assumption) ?_
          rotate_left
          · (intro w hSw; have q := (hSw.boxGet k0m).cellv 2 _ rfl; go_simp; first | done | (with_reducible rfl))
          simp only [Act.put, List.getElem_toArray, List.getElem_cons_succ, List.getElem_cons_zero, List.setIfInBounds_toArray, List.set_cons_zero, List.set_cons_succ]
          refine wpAnyY_pure (i := 7) (oi := _) (v := ?_) rfl (by kernel_rfl) (by kernel_rfl) (by kernel_rfl) (by kernel_rfl) (fun _ _ _ h => h) (Or.inl ⟨by rfl, ?_⟩) ?_
          rotate_left
          · (intro w hSw; go_simp; first | done | (with_reducible rfl))
          simp only [Act.put, List.getElem_toArray, List.getElem_cons_succ, List.getElem_cons_zero, List.setIfInBounds_toArray, List.set_cons_zero, List.set_cons_succ]
          refine wpAnyY_pure (i := 8) (oi := _) (v := ?_) rfl (by kernel_rfl) (by kernel_rfl) (by kernel_rfl) (by kernel_rfl) (fun _ _ _ h => h) (Or.inl ⟨by rfl, ?_⟩) ?_
          rotate_left
          · (intro w hSw; go_simp; first | done | (with_reducible rfl))
          simp only [Act.put, List.getElem_toArray, List.getElem_cons_succ, List.getElem_cons_zero, List.setIfInBounds_toArray, List.set_cons_zero, List.set_cons_succ]
          refine wpAnyY_take (i := 9) (oi := _) (v := .agg (shv x).toArray) rfl (by kernel_rfl) (by kernel_rfl) (by kernel_rfl) (by kernel_rfl) (by kernel_rfl) (fun _ _ _ h => h) (yieldsIf_load_mid (by rfl) 46 _ rfl _ _ rfl _ _ (fun w hSw => fun r u hu => hSw.g.cell (HY.out r u hu) (by simp)) hdz.1 hdz.2 info46) (by assumption) ?_
          simp only [Act.put, List.getElem_toArray, List.getElem_cons_succ, List.getElem_cons_zero, List.setIfInBounds_toArray, List.set_cons_zero, List.set_cons_succ]
          refine wpAnyY_take (i := 10) (oi := _) (v := .bool false) rfl (by kernel_rfl) (by kernel_rfl) (by kernel_rfl) (by kernel_rfl) (by kernel_rfl) (fun _ _ _ h => h) (Or.inl ⟨by rfl, ?_⟩) (by assumption) ?_
          · (intro w hSw; have q := HNE.out w; go_simp; first | done | rfl | (simp; done) | trace_state)
          simp only [Act.put, List.getElem_toArray, List.getElem_cons_succ, List.getElem_cons_zero, List.setIfInBounds_toArray, List.set_cons_zero, List.set_cons_succ]
          refine wpAnyY_done (by kernel_rfl) ?_ _
          clear hHeld
          go_wp2_with fail
          go_roundw
          case rel => exact ⟨i + 1, HIN.out, rfl, HB⟩
          case measure => simp [intOf]; have := HIN.out; omega
        · have hlt1 : ¬ (i : Int) < (ns : Int) := by omega
          clear hlt hi
          go_wp2_with fail
          go_ret
          exact ⟨rfl, HB.out.g⟩
end Go.Proofs.YtgedlabmndlooaaGreat

namespace Go.Proofs.YtgedlabmndlooaaGreat
open Go Go.RowKit Go.Maps Go.Shelf Go.Lib Go.Sort

/-- cells as they are read -/
def Rc (W : World) (g : Nat) (xs : List Value) : Prop := ∀ (k : Nat) t, xs[k]? = some t → W.cell? ⟨g, k, none⟩ = some t
/-- a list that is only read, and a longer one, maybe in the same block, which is the call's own -/
def lnK (e : TypeId) (s g : Nat) (xs : List Value) (v : Value) (n : Nat) (ys : List Value) : As :=
  ⟨fun W F => (Rc W g xs ∧ g < W.heap.size ∧ W.ownsRow 0 e s v n ys ∧ (v.ownBlock ≠ some g ∨ xs <+: ys) ∧ v.ownBlock ≠ none) ∧ F = fun i => i = g ∨ v.ownBlock = some i,
   fun S W W' F h f hs => by
     obtain ⟨⟨h1, h2, h3, h4, h5⟩, rfl⟩ := h
     have e1 := f.block g h2 (hs g (.inl rfl))
     refine ⟨⟨fun k t ht => ?_, Nat.lt_of_lt_of_le h2 f.size, ?_, h4, h5⟩, rfl⟩
     · rw [← h1 k t ht]; simp only [World.cell?, e1]
     · obtain ⟨q1, q2⟩ := h3
       refine ⟨q1, ?_⟩
       rcases q2 with ⟨e, q⟩ | ⟨g', cap, cur, e, q3, q4, q5⟩
       · exact .inl ⟨e, q⟩
       · refine .inr ⟨g', cap, cur, e, q3, ?_, q5⟩
         rw [f.block g' (Array.getElem?_eq_some_iff.1 q4).1 (hs g' (.inr (by rw [e]; rfl)))]
         exact q4,
   fun W F h i hi => by
     obtain ⟨⟨h1, h2, h3, h4, h5⟩, rfl⟩ := h
     rcases hi with rfl | hi
     · exact h2
     · obtain ⟨q1, q2⟩ := h3
       rcases q2 with ⟨e, q⟩ | ⟨g', cap, cur, e, q3, q4, q5⟩
       · rw [e] at hi; cases hi
       · rw [e] at hi
         injection hi with hi
         have hi : g' = i := hi
         subst hi
         exact (Array.getElem?_eq_some_iff.1 q4).1⟩
theorem own_lt {W : World} {e : TypeId} {s g n c : Nat} {xs : List Value} (h : W.ownsRow 0 e s (sl g n c) n xs) : g < W.heap.size := by
  rcases h.2 with ⟨e, _⟩ | ⟨g', cap, cur, e, _, q4, _⟩
  · cases e
  · injection e with e1
    injection e1 with e1
    injection e1 with e1
    subst e1
    exact (Array.getElem?_eq_some_iff.1 q4).1
theorem own_rc {W : World} {e : TypeId} {s g n c : Nat} {xs : List Value} (h : W.ownsRow 0 e s (sl g n c) n xs) (hn : 0 < n) : Rc W g xs := by
  intro k t ht
  obtain ⟨g', c', e, q⟩ := own_any h hn
  injection e with e1
  injection e1 with e1
  injection e1 with e1
  subst e1
  exact (q k t ht).1
theorem Sep.lkStart {w0 W : World} {l : List As} {e : TypeId} {s g n c : Nat} {xs : List Value} (hn : 0 < n) (h : Sep w0 W (rowV e s (sl g n c) n xs :: l)) : Sep w0 W (lnK e s g xs (sl g n c) n xs :: l) := by
  obtain ⟨F, ⟨ho, rfl⟩, _, hu⟩ := h.use
  refine hu W [_] (Fr.refl _ W) (Loc.one (a := lnK _ _ _ _ _ _ _) _ ⟨⟨own_rc ho hn, own_lt ho, ho, .inr (List.prefix_refl _), nofun⟩, rfl⟩ (fun i hi => .inl ?_))
  rcases hi with rfl | hi
  · rfl
  · exact hi
set_option maxRecDepth 100000 in
/-- some more -/
theorem Sep.lkApp {w0 W : World} {l : List As} {t e : TypeId} {i : TypeInfo} {z : Value} {s bytes : Nat} (ht : Tryz.prog.underlying t = some (.slice e)) (hi : Tryz.prog.info? e = some i) (hz : i.zero = some z) (hs : i.size = s) (hby : i.bytes = bytes) (hzs : z.cells.size = s) (hs0 : 0 < s) (hb0 : 0 < bytes)
    {g n : Nat} {xs ys : List Value} {v : Value} (m : Nat) (cs : List Value) (hcs : cs.length = m * s) (h1c : ∀ u ∈ cs, u.oneCell' = true) (hm0 : 0 < m) (h : Sep w0 W (lnK e s g xs v n ys :: l)) (hm : (n + m) * bytes ≤ 140737488355328) :
    ∃ g9 c9 W', (Builtin.append_ #[t, t] t #[v, sl W.heap.size m m]).run Tryz.prog (W.alloc (.cells cs.toArray e)) = .ok (sl g9 (n + m) c9) W' ∧ Sep w0 W' (lnK e s g xs (sl g9 (n + m) c9) (n + m) (ys ++ cs) :: l) := by
  have hle : n + m ≤ 140737488355328 := Nat.le_trans (Nat.le_mul_of_pos_right _ hb0) hm
  obtain ⟨F, ⟨⟨h1, h2, h3, h4, h5⟩, rfl⟩, _, hu⟩ := h.use
  have ga := World.grownBy_alloc W (.cells cs.toArray e) none
  obtain ⟨a0, c, hv⟩ := own_slice h3
  subst hv
  obtain ⟨g', c', e0, h3'⟩ : ∃ g' c', (Value.slice a0 n c) = sl g' n c' ∧ W.ownsRow 0 e s (sl g' n c') n ys := by
    rcases h3.2 with ⟨e, q⟩ | ⟨g', cap, cur, e, _⟩
    · rw [e] at h5; exact absurd rfl h5
    · exact ⟨g', cap, e, by have z := h3; rw [e] at z; exact z⟩
  rw [e0] at h4 h5 hu ⊢
  have hcap : n ≤ c' := row_cap h3'
  have hylen : ys.length = n * s := h3'.1
  clear h3 e0
  have hold : ∀ (j : Nat) t, ys[j]? = some t → W.cell? ⟨g', j, none⟩ = some t := by
    intro j t ht
    have hj := (List.getElem?_eq_some_iff.1 ht).1
    have hn0 : 0 < n := by
      rcases Nat.eq_zero_or_pos n with q | q
      · rw [hylen, q, Nat.zero_mul] at hj; exact absurd hj (Nat.not_lt_zero _)
      · exact q
    exact own_rc h3' hn0 j t ht
  have hk := h3'.kept ga (by cases (sl g' n c').ownBlock <;> simp)
  have hc : ∀ (j : Nat) (u : Value), cs[j]? = some u → (W.alloc (.cells cs.toArray e)).cell? ((⟨W.heap.size, 0, none⟩ : Addr).add j) = some u := fun j u hu => by
    rw [Addr.add_mid, Nat.zero_add]; exact (Has.newA W cs.toArray e).cellv j u (by simpa using hu)
  by_cases hroom : n + m ≤ c'
  · obtain ⟨w', r1, r2, r3⟩ := run_append_own_spare (P := Tryz.prog) (W.alloc (.cells cs.toArray e)) 0 t t e i s ht hi hs g' n c' ys hk ⟨W.heap.size, 0, none⟩ m m cs hcs hc h1c hroom
    have gr : W.grownBy w' (some g') := (World.grownBy_alloc W (.cells cs.toArray e) (some g')).trans r3
    refine ⟨g', c', w', r1, hu w' [_] (Fr.ofSome gr (.inr rfl)) (Loc.one (a := lnK _ _ _ _ _ _ _) _ ⟨⟨?_, Nat.lt_of_lt_of_le h2 gr.size, r2, ?_, nofun⟩, rfl⟩ (fun i hi => .inl hi))⟩
    · rcases h4 with h4 | h4
      · intro k t ht
        exact gr.cell (h1 k t ht) (fun e => h4 (show some g' = some g from e.symm))
      · by_cases hgg : g' = g
        · subst hgg
          intro k t ht
          obtain ⟨R, hR⟩ := h4
          refine own_rc r2 (by omega) k t ?_
          rw [← hR, List.append_assoc, List.getElem?_append_left (List.getElem?_eq_some_iff.1 ht).1]
          exact ht
        · intro k t ht
          exact gr.cell (h1 k t ht) (fun e => hgg (by injection e with e; exact e.symm))
    · rcases h4 with h4 | h4
      · exact .inl h4
      · exact .inr (h4.trans (List.prefix_append _ _))
  · obtain ⟨v', w', r1, r2, r3⟩ := run_append_arg_grows (P := Tryz.prog) (w := W.alloc (.cells cs.toArray e)) t t e i z s bytes ht hi hz hs hby hzs hs0 ⟨g', 0, none⟩ n c' ys hylen (fun j u hu => by rw [Addr.add_mid, Nat.zero_add]; exact ga.cell (hold j u hu) (by simp)) ⟨W.heap.size, 0, none⟩ m m cs hcs hc (by omega) (by unfold maxLen; omega) hm
    obtain ⟨g2, c2, rfl, q⟩ := own_any r2 (by omega)
    have gr : W.grownBy w' none := ga.trans r3
    have hg2 : W.heap.size + 1 ≤ g2 := by
      obtain ⟨_, q2⟩ := r2
      rcases q2 with ⟨e, _⟩ | ⟨g3, cap, cur, e, q3, q4, _⟩
      · cases e
      · injection e with e1
        injection e1 with e1
        injection e1 with e1
        subst e1
        rw [World.size_alloc] at q3
        exact q3
    refine ⟨g2, c2, w', r1, hu w' [_] (Fr.ofNone gr) (Loc.one (a := lnK _ _ _ _ _ _ _) _ ⟨⟨fun k t ht => gr.cell (h1 k t ht) (by simp), Nat.lt_of_lt_of_le h2 gr.size, ?_, .inl (fun e => ?_), nofun⟩, rfl⟩ (fun i hi => ?_))⟩
    · obtain ⟨q1, q2⟩ := r2
      refine ⟨q1, ?_⟩
      rcases q2 with ⟨e, q⟩ | ⟨g3, cap, cur, e, q3, q4⟩
      · exact .inl ⟨e, q⟩
      · exact .inr ⟨g3, cap, cur, e, Nat.zero_le _, q4⟩
    · injection e with e
      have e : g2 = g := e
      omega
    · rcases hi with rfl | hi
      · exact .inl (.inl rfl)
      · injection hi with hi
        have hi : g2 = i := hi
        exact .inr (by omega)
/-- o: the block of the list that is read, none where it is empty -/
def lvK (e : TypeId) (s : Nat) (o : Option Nat) (xs : List Value) (v : Value) (n : Nat) (ys : List Value) : As := match o with
  | none => rowV e s v n ys
  | some g => lnK e s g xs v n ys
theorem Sep.lwStart {w0 W : World} {l : List As} {e : TypeId} {s : Nat} {v : Value} {n : Nat} {xs : List Value} (h : Sep w0 W (rowV e s v n xs :: l)) :
    ∃ o, Sep w0 W (lvK e s o xs v n xs :: l) ∧ (o = none → n = 0) ∧ ∀ g, o = some g → ∃ c, v = sl g n c := by
  rcases Nat.eq_zero_or_pos n with hn | hn
  · exact ⟨none, h, fun _ => hn, nofun⟩
  · obtain ⟨g, c, rfl, _⟩ := own_any (h.rowGet k0m) hn
    exact ⟨some g, Sep.lkStart hn h, nofun, fun g' q => by injection q with q; subst q; exact ⟨c, rfl⟩⟩
set_option maxRecDepth 100000 in
theorem Sep.appM {w0 W : World} {l : List As} {t e : TypeId} {i : TypeInfo} {z : Value} {s bytes : Nat} (ht : Tryz.prog.underlying t = some (.slice e)) (hi : Tryz.prog.info? e = some i) (hz : i.zero = some z) (hs : i.size = s) (hby : i.bytes = bytes) (hzs : z.cells.size = s) (hs0 : 0 < s) (hb0 : 0 < bytes)
    {v : Value} {n : Nat} {xs : List Value} (m : Nat) (cs : List Value) (hcs : cs.length = m * s) (h1 : ∀ u ∈ cs, u.oneCell' = true) (hm0 : 0 < m) (h : Sep w0 W (rowV e s v n xs :: l)) (hsz : (n + m) * bytes ≤ 140737488355328) :
    ∃ g c W', (Builtin.append_ #[t, t] t #[v, sl W.heap.size m m]).run Tryz.prog (W.alloc (.cells cs.toArray e)) = .ok (sl g (n + m) c) W' ∧ Sep w0 W' (rowV e s (sl g (n + m) c) (n + m) (xs ++ cs) :: l) := by
  have S2 : Sep w0 (W.alloc (.cells cs.toArray e)) (rowV e s v n xs :: l) := h.grown (World.grownBy_alloc _ _ _)
  obtain ⟨v', W', r1, S3⟩ := Sep.appF (t := t) ht hi hz hs hby hzs hs0 S2 ⟨W.heap.size, 0, none⟩ m m cs hcs (fun j u hu => by
    rw [Addr.add_mid, Nat.zero_add]; exact (Has.newA W cs.toArray e).cellv j u (by simpa using hu)) h1 hsz hb0
  obtain ⟨g, c, rfl, _⟩ := own_any (S3.rowGet k0m) (by omega)
  exact ⟨g, c, W', r1, S3⟩
set_option maxRecDepth 100000 in
theorem Sep.lwApp {w0 W : World} {l : List As} {t e : TypeId} {i : TypeInfo} {z : Value} {s bytes : Nat} (ht : Tryz.prog.underlying t = some (.slice e)) (hi : Tryz.prog.info? e = some i) (hz : i.zero = some z) (hs : i.size = s) (hby : i.bytes = bytes) (hzs : z.cells.size = s) (hs0 : 0 < s) (hb0 : 0 < bytes)
    {o : Option Nat} {n : Nat} {xs ys : List Value} {v : Value} (m : Nat) (cs : List Value) (hcs : cs.length = m * s) (h1c : ∀ u ∈ cs, u.oneCell' = true) (hm0 : 0 < m) (h : Sep w0 W (lvK e s o xs v n ys :: l)) (hm : (n + m) * bytes ≤ 140737488355328) :
    ∃ g9 c9 W', (Builtin.append_ #[t, t] t #[v, sl W.heap.size m m]).run Tryz.prog (W.alloc (.cells cs.toArray e)) = .ok (sl g9 (n + m) c9) W' ∧ Sep w0 W' (lvK e s o xs (sl g9 (n + m) c9) (n + m) (ys ++ cs) :: l) := by
  cases o with
  | some g => exact Sep.lkApp ht hi hz hs hby hzs hs0 hb0 m cs hcs h1c hm0 h hm
  | none => exact Sep.appM ht hi hz hs hby hzs hs0 hb0 m cs hcs h1c hm0 h hm
/-- a list as it is read, by its cells -/
def Rv (W : World) (v : Value) (n : Nat) (xs : List Value) : Prop := ∃ a c, v = .slice a n c ∧ (0 < n → ∃ g, a = some ⟨g, 0, none⟩ ∧ g < W.heap.size ∧ Rc W g xs)
theorem Rv.kept {W W' : World} {v : Value} {n : Nat} {xs : List Value} {S : Nat → Prop} (h : Rv W v n xs) (f : Fr S W W') (hs : ∀ i, 0 < n → v.ownBlock = some i → ¬ S i) : Rv W' v n xs := by
  obtain ⟨a, c, rfl, q⟩ := h
  refine ⟨a, c, rfl, fun hn => ?_⟩
  obtain ⟨g, rfl, hg, q⟩ := q hn
  have e1 := f.block g hg (hs g hn rfl)
  refine ⟨g, rfl, Nat.lt_of_lt_of_le hg f.size, fun k t ht => ?_⟩
  rw [← q k t ht]; simp only [World.cell?, e1]
/-- two lists that are kept -/
def prK (va : Value) (n : Nat) (xs : List Value) (vo : Value) (m : Nat) (ys : List Value) : As :=
  ⟨fun W F => (Rv W va n xs ∧ Rv W vo m ys) ∧ F = fun i => (0 < n ∧ va.ownBlock = some i) ∨ (0 < m ∧ vo.ownBlock = some i),
   fun S W W' F h f hs => by
     obtain ⟨⟨h1, h2⟩, rfl⟩ := h
     exact ⟨⟨h1.kept f (fun i hn e => hs i (.inl ⟨hn, e⟩)), h2.kept f (fun i hn e => hs i (.inr ⟨hn, e⟩))⟩, rfl⟩,
   fun W F h i hi => by
     obtain ⟨⟨h1, h2⟩, rfl⟩ := h
     rcases hi with ⟨hn, hi⟩ | ⟨hn, hi⟩
     · obtain ⟨a, c, rfl, q⟩ := h1
       obtain ⟨g, rfl, hg, _⟩ := q hn
       injection hi with hi
       have hi : g = i := hi
       subst hi; exact hg
     · obtain ⟨a, c, rfl, q⟩ := h2
       obtain ⟨g, rfl, hg, _⟩ := q hn
       injection hi with hi
       have hi : g = i := hi
       subst hi; exact hg⟩
theorem own_rv {W : World} {e : TypeId} {s : Nat} {v : Value} {n : Nat} {xs : List Value} (h : W.ownsRow 0 e s v n xs) : Rv W v n xs := by
  obtain ⟨a, c, e⟩ := own_slice h
  refine ⟨a, c, e, fun hn => ?_⟩
  obtain ⟨g, c', e', q⟩ := own_any h hn
  subst e'
  injection e with e1 e2 e3
  subst e1
  exact ⟨g, rfl, own_lt h, own_rc h hn⟩
theorem Sep.lwEnd {w0 W : World} {l : List As} {e : TypeId} {s : Nat} {o : Option Nat} {va vo : Value} {n m : Nat} {xs ys : List Value} (hva : ∃ a c, va = .slice a n c) (ho : o = none → n = 0) (hg : ∀ g, o = some g → ∃ c, va = sl g n c)
    (h : Sep w0 W (lvK e s o xs vo m ys :: l)) : Sep w0 W (prK va n xs vo m ys :: l) := by
  cases o with
  | none =>
    obtain rfl := ho rfl
    obtain ⟨a, c, rfl⟩ := hva
    have h' : Sep w0 W (rowV e s vo m ys :: l) := h
    obtain ⟨F, ⟨q, rfl⟩, _, hu⟩ := h'.use
    exact hu W [_] (Fr.refl _ W) (Loc.one (a := prK _ _ _ _ _ _) _ ⟨⟨⟨a, c, rfl, fun h => by omega⟩, own_rv q⟩, rfl⟩ (fun i hi => .inl (by
      rcases hi with ⟨hn, _⟩ | ⟨_, hi⟩
      · omega
      · exact hi)))
  | some g =>
    obtain ⟨c, rfl⟩ := hg g rfl
    have h' : Sep w0 W (lnK e s g xs vo m ys :: l) := h
    obtain ⟨F, ⟨⟨h1, h2, h3, h4, h5⟩, rfl⟩, _, hu⟩ := h'.use
    exact hu W [_] (Fr.refl _ W) (Loc.one (a := prK _ _ _ _ _ _) _ ⟨⟨⟨_, c, rfl, fun _ => ⟨g, rfl, h2, h1⟩⟩, own_rv h3⟩, rfl⟩ (fun i hi => .inl (by
      rcases hi with ⟨_, hi⟩ | ⟨_, hi⟩
      · injection hi with hi; exact .inl hi.symm
      · exact .inr hi)))
theorem Sep.prGet {w0 W : World} {l : List As} {va vo : Value} {n m : Nat} {xs ys : List Value} (h : Sep w0 W l) (hm : prK va n xs vo m ys ∈ l) : Rv W va n xs ∧ Rv W vo m ys := by
  obtain ⟨F, q, _⟩ := h.get hm
  exact q
end Go.Proofs.YtgedlabmndlooaaGreat

namespace Go.Proofs.YtgedlabmndlooaaGreat
open Go Go.RowKit Go.Maps Go.Shelf Go.Lib Go.Sort

/-- the mark of the list number t -/
def mkN (t : Nat) : Sn := ⟨-1 - (t : Int), 0, 0, 0, 0⟩
theorem builtM (t : Nat) : Tryz.prog.built 33 [(0, iv (-1 - (t : Int)))] = some (snv (mkN t)).toArray := by kernel_rfl
/-- behind k writes -/
def wrN (T : List Sn) (t k : Nat) : List Sn := List.replicate k (mkN t) ++ T.drop k
theorem wrN_zero (T : List Sn) (t : Nat) : wrN T t 0 = T := by simp [wrN]
theorem wrN_len (T : List Sn) (t k : Nat) (hk : k ≤ T.length) : (wrN T t k).length = T.length := by simp [wrN]; omega
theorem wrN_set (T : List Sn) (t k : Nat) (hk : k < T.length) : (wrN T t k).set k (mkN t) = wrN T t (k + 1) := by
  unfold wrN
  rw [List.set_append_right _ _ (by simp), List.length_replicate, Nat.sub_self, List.drop_eq_getElem_cons hk, List.set_cons_zero, List.replicate_succ']
  simp
theorem wrN_end (T : List Sn) (t n : Nat) (hn : T.length = n) : wrN T t n = List.replicate n (mkN t) := by subst hn; simp [wrN]
theorem under59 : Tryz.prog.underlying 59 = some (.slice 27) := by kernel_rfl
theorem info27b : ∃ i, Tryz.prog.info? 27 = some i ∧ i.size = 1 ∧ i.bytes = 24 ∧ i.zero = some (.slice none 0 0) := by
  have h : (Tryz.prog.info? 27).map (fun i => (i.size, i.bytes, i.zero)) = some (1, 24, some (.slice none 0 0)) := by kernel_rfl
  cases e : Tryz.prog.info? 27 with
  | none => rw [e] at h; cases h
  | some i =>
    rw [e] at h
    simp only [Option.map_some, Option.some.injEq, Prod.mk.injEq] at h
    exact ⟨i, rfl, h.1, h.2.1, h.2.2⟩
theorem bsR (a : Option Addr) (n c : Nat) (W : World) : (Instr.buildSlice 59 1 #[(0, .slice a n c)]).run Tryz.prog W = .ok (sl W.heap.size 1 1) (W.alloc (.cells #[.slice a n c] 27)) := by kernel_rfl
/-- one list more -/
theorem Sep.appR {w0 W : World} {l : List As} {v : Value} {n : Nat} {xs : List Value} (a : Option Addr) (m c : Nat) (h : Sep w0 W (rowV 27 1 v n xs :: l)) (hm : (n + 1) * 24 ≤ 140737488355328) :
    ∃ g9 c9 W', (Builtin.append_ #[59, 59] 59 #[v, sl W.heap.size 1 1]).run Tryz.prog (W.alloc (.cells #[.slice a m c] 27)) = .ok (sl g9 (n + 1) c9) W' ∧ Sep w0 W' (rowV 27 1 (sl g9 (n + 1) c9) (n + 1) (xs ++ [.slice a m c]) :: l) := by
  obtain ⟨i, i1, i2, i3, i4⟩ := info27b
  exact Sep.app (z := .slice none 0 0) (bytes := 24) under59 i1 i4 i2 i3 rfl (by decide) h [.slice a m c] rfl (fun u hu => by rw [List.mem_singleton.1 hu]; rfl) hm (by decide)
set_option maxRecDepth 100000 in
set_option maxHeartbeats 16000000 in
theorem kview_c (w0 W : World) (l : List As) (kb : Nat) (t : Int) (own : Cr) (vL vG vV vX vS : Value) (m n : Nat) (xs : List Value) (T : List Sn) (hn : T.length = n) (hnb : n ≤ 1048576) (hmb : m ≤ 1099511627776)
    (h : Sep w0 W (boxA kb [vL, vG, vV, vX] 62 :: rowV 27 1 vL m xs :: rowV 33 5 vS n (fl snv T) :: l)) :
    Calls Tryz.prog 20 #[pt kb, vlV t own vS] W fun e W' => e = .returned (.tuple #[]) ∧ ∃ vL', Sep w0 W' (boxA kb [vL', vG, vV, vX] 62 :: rowV 27 1 vL' (m + 1) (xs ++ [vS]) :: rowV 33 5 vS n (fl snv (List.replicate n (mkN m))) :: l) := by
  obtain ⟨aL, cL, rfl⟩ := own_slice (h.rowGet k1m)
  obtain ⟨aS, cS, rfl⟩ := own_slice (h.rowGet k2m)
  have S1 := h.newBox #[.int .u64 t, iv own.pl, .string own.nm, iv own.x, iv own.y, iv own.sx, iv own.sy, iv own.hd, iv own.he, iv own.en, iv own.am, iv own.co, iv own.wa, iv own.sp, iv own.sc, .slice aS n cS] 29
  obtain ⟨vb, hvb⟩ : ∃ b, W.heap.size = b := ⟨_, rfl⟩
  obtain ⟨W1, hW1⟩ : ∃ w, W.alloc (.cells #[.int .u64 t, iv own.pl, .string own.nm, iv own.x, iv own.y, iv own.sx, iv own.sy, iv own.hd, iv own.he, iv own.en, iv own.am, iv own.co, iv own.wa, iv own.sp, iv own.sc, .slice aS n cS] 29) = w := ⟨_, rfl⟩
  rw [hvb, hW1] at S1
  have HB : Keep (Sep w0 W1 (boxA vb (vwv t own (.slice aS n cS)) 29 :: boxA kb [.slice aL m cL, vG, vV, vX] 62 :: rowV 27 1 (.slice aL m cL) m xs :: rowV 33 5 (.slice aS n cS) n (fl snv (wrN T m 0)) :: l)) := ⟨by rw [wrN_zero]; exact S1⟩
  have HTN := Keep.mk hn
  have HNB := Keep.mk hnb
  have HMB : Keep ((m + 1) * 24 ≤ 140737488355328) := ⟨by omega⟩
  have HBM := Keep.mk (builtM m)
  have hm1 : IntKind.i64.wrap (-1 - (m : Int)) = -1 - (m : Int) := by rw [IntKind.wrap_i64]; omega
  clear S1 h hn hnb hmb
  go_enter Tryz.func20, Tryz.ntmps20
  go_wp2_with fail
  clear hvb hW1
  go_loopw [4] (fun u4 wr => ∃ i : Nat, i ≤ n ∧ u4 = iv i ∧ Keep (Sep w0 wr (boxA vb (vwv t own (.slice aS n cS)) 29 :: boxA kb [.slice aL m cL, vG, vV, vX] 62 :: rowV 27 1 (.slice aL m cL) m xs :: rowV 33 5 (.slice aS n cS) n (fl snv (wrN T m i)) :: l))) (fun u4 _ => (n - intOf u4).toNat)
  case atStart => exact ⟨0, Nat.zero_le _, rfl, HB⟩
  case round =>
    clear HB
    obtain ⟨i, hi, rfl, HB⟩ := hrel
    have c15 := (HB.out.boxGet k0m).cellv 15 _ rfl
    by_cases hlt : i < n
    · have hlt1 : (i : Int) < (n : Int) := by omega
      have hi0 : (0 : Int) ≤ (i : Int) := by omega
      have hit : ((i : Nat) : Int).toNat = i := by omega
      have hiw : IntKind.i64.wrap ((i : Int) + 1) = ((i + 1 : Nat) : Int) := by rw [IntKind.wrap_i64]; have := HNB.out; omega
      have HIN : Keep (i < n) := ⟨hlt⟩
      obtain ⟨gS, hgS⟩ : ∃ g, aS = some ⟨g, 0, none⟩ := by
        obtain ⟨g, c', e1, _⟩ := own_any (HB.out.rowGet k3m) (by omega)
        injection e1 with e1 _ _
        exact ⟨g, e1⟩
      subst hgS
      clear hlt hi
      go_wp2_with fail
      clear c15
      refine region_Y (S := fun w' => Sep w0 w' (boxA vb (vwv t own (.slice (some ⟨gS, 0, none⟩) n cS)) 29 :: boxA kb [.slice aL m cL, vG, vV, vX] 62 :: rowV 27 1 (.slice aL m cL) m xs :: rowV 33 5 (.slice (some ⟨gS, 0, none⟩) n cS) n (fl snv (wrN T m i)) :: l)) [11] (by kernel_rfl) ?_
      obtain ⟨W0, hW0⟩ : ∃ W_, wr.drew = W_ := ⟨_, rfl⟩
      replace HB := Keep.mk (HB.out.grown (gr_drew _ none))
      rw [hW0] at HB ⊢
      clear hW0
      have hHeld : (fun w' => Sep w0 w' (boxA vb (vwv t own (.slice (some ⟨gS, 0, none⟩) n cS)) 29 :: boxA kb [.slice aL m cL, vG, vV, vX] 62 :: rowV 27 1 (.slice aL m cL) m xs :: rowV 33 5 (.slice (some ⟨gS, 0, none⟩) n cS) n (fl snv (wrN T m i)) :: l)) W0 := HB.out
      refine wpAnyY_pure (i := 0) (oi := _) (v := ?_) rfl (by kernel_rfl) (by kernel_rfl) (by kernel_rfl) (by kernel_rfl) (fun _ _ _ h => h) (Or.inl ⟨by rfl, ?_⟩) ?_
      rotate_left
      · (intro w hSw; go_simp; first | done | (with_reducible rfl))
      simp only [Act.put, List.getElem_toArray, List.getElem_cons_zero, List.setIfInBounds_toArray, List.set_cons_zero, List.set_cons_succ]
      refine wpAnyY_take (i := 1) (oi := _) (v := ?_) rfl (by kernel_rfl) (by kernel_rfl) (by kernel_rfl) (by kernel_rfl) (by kernel_rfl) (fun _ _ _ h => h) (Or.inl ⟨by rfl, ?_⟩) (by assumption) ?_
      rotate_left
      · (intro w hSw; have q := (hSw.boxGet k0m).cellv 15 _ rfl; go_simp; first | done | (with_reducible rfl))
      simp only [Act.put, List.getElem_toArray, List.getElem_cons_succ, List.getElem_cons_zero, List.setIfInBounds_toArray, List.set_cons_zero, List.set_cons_succ]
      refine wpAnyY_pure (i := 2) (oi := _) (v := ?_) rfl (by kernel_rfl) (by kernel_rfl) (by kernel_rfl) (by kernel_rfl) (fun _ _ _ h => h) (Or.inl ⟨by rfl, ?_⟩) ?_
      rotate_left
      · (intro w hSw; go_simp; first | done | (with_reducible rfl))
      simp only [Act.put, List.getElem_toArray, List.getElem_cons_succ, List.getElem_cons_zero, List.setIfInBounds_toArray, List.set_cons_zero, List.set_cons_succ]
      refine wpAnyY_pure (i := 3) (oi := _) (v := ?_) rfl (by kernel_rfl) (by kernel_rfl) (by kernel_rfl) (by kernel_rfl) (fun _ _ _ h => h) (Or.inl ⟨by rfl, ?_⟩) ?_
      rotate_left
      · (intro w hSw; go_simp; first | done | (with_reducible rfl))
      simp only [Act.put, List.getElem_toArray, List.getElem_cons_succ, List.getElem_cons_zero, List.setIfInBounds_toArray, List.set_cons_zero, List.set_cons_succ]
      refine wpAnyY_pure (i := 4) (oi := _) (v := ?_) rfl (by kernel_rfl) (by kernel_rfl) (by kernel_rfl) (by kernel_rfl) (fun _ _ _ h => h) (Or.inl ⟨by rfl, ?_⟩) ?_
      rotate_left
      · (intro w hSw; go_simp; first | done | (with_reducible rfl))
      simp only [Act.put, List.getElem_toArray, List.getElem_cons_succ, List.getElem_cons_zero, List.setIfInBounds_toArray, List.set_cons_zero, List.set_cons_succ]
      refine wpAnyY_pure (i := 5) (oi := _) (v := ?_) rfl (by kernel_rfl) (by kernel_rfl) (by kernel_rfl) (by kernel_rfl) (fun _ _ _ h => h) (Or.inl ⟨by rfl, ?_⟩) ?_
      rotate_left
      · (intro w hSw; go_simp; first | done | (with_reducible rfl))
      simp only [Act.put, List.getElem_toArray, List.getElem_cons_succ, List.getElem_cons_zero, List.setIfInBounds_toArray, List.set_cons_zero, List.set_cons_succ]
      refine wpAnyY_take (i := 6) (oi := _) (v := ?_) rfl (by kernel_rfl) (by kernel_rfl) (by kernel_rfl) (by kernel_rfl) (by kernel_rfl) (fun _ _ _ h => h) (Or.inl ⟨by rfl, ?_⟩) (by assumption) ?_
      rotate_left
      · (intro w hSw; have q := (hSw.boxGet k1m).cellv 0 _ rfl; go_simp; first | done | (with_reducible rfl))
      simp only [Act.put, List.getElem_toArray, List.getElem_cons_succ, List.getElem_cons_zero, List.setIfInBounds_toArray, List.set_cons_zero, List.set_cons_succ]
      refine wpAnyY_pure (i := 7) (oi := _) (v := ?_) rfl (by kernel_rfl) (by kernel_rfl) (by kernel_rfl) (by kernel_rfl) (fun _ _ _ h => h) (Or.inl ⟨by rfl, ?_⟩) ?_
      rotate_left
      · (intro w hSw; go_simp; first | done | (with_reducible rfl))
      simp only [Act.put, List.getElem_toArray, List.getElem_cons_succ, List.getElem_cons_zero, List.setIfInBounds_toArray, List.set_cons_zero, List.set_cons_succ]
      refine wpAnyY_pure (i := 8) (oi := _) (v := ?_) rfl (by kernel_rfl) (by kernel_rfl) (by kernel_rfl) (by kernel_rfl) (fun _ _ _ h => h) (Or.inl ⟨by rfl, ?_⟩) ?_
      rotate_left
      · (intro w hSw; go_simp; first | done | (with_reducible rfl))
      simp only [Act.put, List.getElem_toArray, List.getElem_cons_succ, List.getElem_cons_zero, List.setIfInBounds_toArray, List.set_cons_zero, List.set_cons_succ]
      refine wpAnyY_pure (i := 9) (oi := _) (v := .agg (snv (mkN m)).toArray) rfl (by kernel_rfl) (by kernel_rfl) (by kernel_rfl) (by kernel_rfl) (fun _ _ _ h => h) (yieldsIf_build (by rfl) 33 _ rfl _ ?_) ?_
      · refine (congrArg (Tryz.prog.built 33) ?_).trans HBM.out
        simp only [List.map_toArray, List.map_cons, List.map_nil]
        rfl
      simp only [Act.put, List.getElem_toArray, List.getElem_cons_succ, List.getElem_cons_zero, List.setIfInBounds_toArray, List.set_cons_zero, List.set_cons_succ]
      refine wpAnyY_pure (i := 10) (oi := _) (v := ?_) rfl (by kernel_rfl) (by kernel_rfl) (by kernel_rfl) (by kernel_rfl) (fun _ _ _ h => h) (Or.inl ⟨by rfl, ?_⟩) ?_
      rotate_left
      · (intro w hSw; go_simp; first | done | (with_reducible rfl))
      simp only [Act.put, List.getElem_toArray, List.getElem_cons_succ, List.getElem_cons_zero, List.setIfInBounds_toArray, List.set_cons_zero, List.set_cons_succ]
      refine wpAnyY_late (i := 11) (by kernel_rfl) rfl (by kernel_rfl) (fun K hK => ?_)
      rw [if_pos (show Region.wanted _ _ = true from rfl)]
      refine wp_store_mid 33 _ _ rfl gS (i * 5) (snv (mkN m)).toArray rfl rfl (row_there (HB.out.rowGet k3m) (by omega) 5 (by have := HIN.out; omega)) info33 (all_oneCell_toArray (snv_one (mkN m))) ?_
      have S_ := Sep.rowSetsAt (snv (mkN m)) _ _ (i * 5) (fr1 [_, _, _] HB.out)
      rw [fl_over snv_len _ i (by rw [wrN_len T m i (by have := HIN.out; have := HTN.out; omega), HTN.out]; exact HIN.out), wrN_set T m i (by rw [HTN.out]; exact HIN.out)] at S_
      replace HB := Keep.mk (bk1 [_, _, _] S_)
      clear S_
      refine hK.out _ _ ?_
      clear hK K
      show wpAnyY _ _ _ _ _ _ _ _ _ (World.setCells W0 gS (i * 5) (snv (mkN m)))
      change Keep (Sep w0 (World.setCells W0 gS (i * 5) (snv (mkN m))) _) at HB
      generalize World.setCells W0 gS (i * 5) (snv (mkN m)) = W1' at HB ⊢
      simp only [Act.put, List.getElem_toArray, List.getElem_cons_succ, List.getElem_cons_zero]
      refine wpAnyY_done (by kernel_rfl) ?_ _
      go_wp2_with fail
      go_roundw
      case rel => exact ⟨i + 1, HIN.out, rfl, HB⟩
      case measure => simp [intOf]; have := HIN.out; omega
    · have hlt1 : ¬ (i : Int) < (n : Int) := by omega
      obtain rfl : i = n := by omega
      rw [wrN_end T m i HTN.out] at HB
      clear hlt hi
      go_wp2_with fail
      clear c15
      refine region_Y (S := fun w' => Sep w0 w' [boxA vb (vwv t own (.slice aS i cS)) 29, boxA kb [.slice aL m cL, vG, vV, vX] 62]) [11] (by kernel_rfl) ?_
      obtain ⟨W0, hW0⟩ : ∃ W_, wr.drew = W_ := ⟨_, rfl⟩
      replace HB := Keep.mk (HB.out.grown (gr_drew _ none))
      rw [hW0] at HB ⊢
      clear hW0
      have hHeld : (fun w' => Sep w0 w' [boxA vb (vwv t own (.slice aS i cS)) 29, boxA kb [.slice aL m cL, vG, vV, vX] 62]) W0 := Sep.dropM (l := []) [_, _] _ (by simpa using HB.out)
      refine wpAnyY_pure (i := 0) (oi := _) (v := ?_) rfl (by kernel_rfl) (by kernel_rfl) (by kernel_rfl) (by kernel_rfl) (fun _ _ _ h => h) (Or.inl ⟨by rfl, ?_⟩) ?_
      rotate_left
      · (intro w hSw; go_simp; first | done | (with_reducible rfl))
      simp only [Act.put, List.getElem_toArray, List.getElem_cons_zero, List.setIfInBounds_toArray, List.set_cons_zero, List.set_cons_succ]
      refine wpAnyY_pure (i := 1) (oi := _) (v := ?_) rfl (by kernel_rfl) (by kernel_rfl) (by kernel_rfl) (by kernel_rfl) (fun _ _ _ h => h) (Or.inl ⟨by rfl, ?_⟩) ?_
      rotate_left
      · (intro w hSw; go_simp; first | done | (with_reducible rfl))
      simp only [Act.put, List.getElem_toArray, List.getElem_cons_succ, List.getElem_cons_zero, List.setIfInBounds_toArray, List.set_cons_zero, List.set_cons_succ]
      refine wpAnyY_pure (i := 2) (oi := _) (v := ?_) rfl (by kernel_rfl) (by kernel_rfl) (by kernel_rfl) (by kernel_rfl) (fun _ _ _ h => h) (Or.inl ⟨by rfl, ?_⟩) ?_
      rotate_left
      · (intro w hSw; go_simp; first | done | (with_reducible rfl))
      simp only [Act.put, List.getElem_toArray, List.getElem_cons_succ, List.getElem_cons_zero, List.setIfInBounds_toArray, List.set_cons_zero, List.set_cons_succ]
      refine wpAnyY_pure (i := 3) (oi := _) (v := ?_) rfl (by kernel_rfl) (by kernel_rfl) (by kernel_rfl) (by kernel_rfl) (fun _ _ _ h => h) (Or.inl ⟨by rfl, ?_⟩) ?_
      rotate_left
      · (intro w hSw; go_simp; first | done | (with_reducible rfl))
      simp only [Act.put, List.getElem_toArray, List.getElem_cons_succ, List.getElem_cons_zero, List.setIfInBounds_toArray, List.set_cons_zero, List.set_cons_succ]
      refine wpAnyY_take (i := 4) (oi := _) (v := ?_) rfl (by kernel_rfl) (by kernel_rfl) (by kernel_rfl) (by kernel_rfl) (by kernel_rfl) (fun _ _ _ h => h) (Or.inl ⟨by rfl, ?_⟩) (by assumption) ?_
      rotate_left
      · (intro w hSw; have q := (hSw.boxGet k1m).cellv 0 _ rfl; go_simp; first | done | (with_reducible rfl))
      simp only [Act.put, List.getElem_toArray, List.getElem_cons_succ, List.getElem_cons_zero, List.setIfInBounds_toArray, List.set_cons_zero, List.set_cons_succ]
      refine wpAnyY_pure (i := 5) (oi := _) (v := ?_) rfl (by kernel_rfl) (by kernel_rfl) (by kernel_rfl) (by kernel_rfl) (fun _ _ _ h => h) (Or.inl ⟨by rfl, ?_⟩) ?_
      rotate_left
      · (intro w hSw; go_simp; first | done | (with_reducible rfl))
      simp only [Act.put, List.getElem_toArray, List.getElem_cons_succ, List.getElem_cons_zero, List.setIfInBounds_toArray, List.set_cons_zero, List.set_cons_succ]
      refine wpAnyY_take (i := 6) (oi := _) (v := ?_) rfl (by kernel_rfl) (by kernel_rfl) (by kernel_rfl) (by kernel_rfl) (by kernel_rfl) (fun _ _ _ h => h) (Or.inl ⟨by rfl, ?_⟩) (by assumption) ?_
      rotate_left
      · (intro w hSw; have q := (hSw.boxGet k0m).cellv 15 _ rfl; go_simp; first | done | (with_reducible rfl))
      simp only [Act.put, List.getElem_toArray, List.getElem_cons_succ, List.getElem_cons_zero, List.setIfInBounds_toArray, List.set_cons_zero, List.set_cons_succ]
      refine wpAnyY_one (i := 7) (by kernel_rfl) rfl (fun K hK => ?_)
      have bs := bsR aS i cS W0
      have g6 := gr_alloc W0 (.cells #[.slice aS i cS] 27) none
      obtain ⟨g9, c9, w9, ap, S9⟩ := Sep.appR aS i cS (fr1 [_, _] HB.out) HMB.out
      have AP := Keep.mk ap
      have HS9 := Keep.mk S9
      clear ap S9
      obtain ⟨w6, hw6⟩ : ∃ w, W0.alloc (.cells #[.slice aS i cS] 27) = w := ⟨_, rfl⟩
      obtain ⟨b6, hb6⟩ : ∃ b, W0.heap.size = b := ⟨_, rfl⟩
      rw [hw6, hb6] at bs AP
      rw [hw6] at g6
      go_simp
      refine hK.out _ _ (fun h => h.grown g6) ?_
      clear hK K hHeld bs hw6 hb6 HB g6
      refine wpAnyY_one (i := 8) (by kernel_rfl) rfl (fun K hK => ?_)
      rw [if_pos (show Region.wanted _ _ = true from rfl)]
      refine wp_append_run (.tmp 27) (.tmp 30) 59 rfl _ _ rfl rfl AP.out ?_
      refine hK.out _ _ (fun _ => Sep.dropM (l := []) [_, _] _ (by simpa using HS9.out.tail)) ?_
      clear hK K
      simp only [Act.put, List.getElem_toArray, List.getElem_cons_succ, List.getElem_cons_zero, List.setIfInBounds_toArray, List.set_cons_zero, List.set_cons_succ]
      refine wpAnyY_pure (i := 9) (oi := _) (v := ?_) rfl (by kernel_rfl) (by kernel_rfl) (by kernel_rfl) (by kernel_rfl) (fun _ _ _ h => h) (Or.inl ⟨by rfl, ?_⟩) ?_
      rotate_left
      · (intro w hSw; go_simp; first | done | (with_reducible rfl))
      simp only [Act.put, List.getElem_toArray, List.getElem_cons_succ, List.getElem_cons_zero, List.setIfInBounds_toArray, List.set_cons_zero, List.set_cons_succ]
      refine wpAnyY_pure (i := 10) (oi := _) (v := ?_) rfl (by kernel_rfl) (by kernel_rfl) (by kernel_rfl) (by kernel_rfl) (fun _ _ _ h => h) (Or.inl ⟨by rfl, ?_⟩) ?_
      rotate_left
      · (intro w hSw; go_simp; first | done | (with_reducible rfl))
      simp only [Act.put, List.getElem_toArray, List.getElem_cons_succ, List.getElem_cons_zero, List.setIfInBounds_toArray, List.set_cons_zero, List.set_cons_succ]
      refine wpAnyY_late (i := 11) (by kernel_rfl) rfl (by kernel_rfl) (fun K hK => ?_)
      have c4 := (HS9.out.boxGet k2m).cellv 0 _ rfl
      have y4 := (HS9.out.boxGet k2m).frozen 0
      have S10 := (fr1 [_, _] HS9.out).boxPut 0 (sl g9 (m + 1) c9)
      obtain ⟨w10, hw10⟩ : ∃ w, w9.setCell ⟨kb, 0, none⟩ (sl g9 (m + 1) c9) = w := ⟨_, rfl⟩
      rw [hw10] at S10
      go_simp
      refine hK.out _ _ ?_
      clear hK K
      have HF := Keep.mk S10
      clear S10 c4 y4 hw10 HS9 AP
      refine wpAnyY_done (by kernel_rfl) ?_ _
      go_wp2_with fail
      go_end0
      refine ⟨rfl, sl g9 (m + 1) c9, ?_⟩
      have q : Sep w0 w10 (boxA kb [sl g9 (m + 1) c9, vG, vV, vX] 62 :: rowV 27 1 (sl g9 (m + 1) c9) (m + 1) (xs ++ [.slice aS i cS]) :: boxA vb (vwv t own (.slice aS i cS)) 29 :: rowV 33 5 (.slice aS i cS) i (fl snv (List.replicate i (mkN m))) :: l) := HF.out
      exact Sep.dropM [_, _] [_] q
end Go.Proofs.YtgedlabmndlooaaGreat

namespace Go.Proofs.YtgedlabmndlooaaGreat
open Go Go.RowKit Go.Maps Go.Shelf Go.Lib Go.Sort

/-- a view's list behind it was written full -/
def mwE (q : Vt) (t : Nat) : As := rowV 33 5 q.2.1 q.2.2.length (fl snv (List.replicate q.2.2.length (mkN t)))
def mksA : List Vt → Nat → List As
  | [], _ => []
  | q :: r, t => mwE q t :: mksA r (t + 1)
theorem mksA_app : ∀ (P : List Vt) (p : Vt) (t : Nat), mksA (P ++ [p]) t = mksA P t ++ [mwE p (t + P.length)]
  | [], p, t => rfl
  | q :: r, p, t => by
    rw [List.cons_append, mksA, mksA_app r p (t + 1), mksA, List.length_cons, List.cons_append, show t + 1 + r.length = t + (r.length + 1) by omega]
def zCr : Cr := ⟨0, { data := #[] }, 0, 0, 0, 0, 0, 0, 0, 0, 0, 0, 0, 0⟩
/-- a view in a row, whatever its tick -/
abbrev V3 := Int × Cr × Value
def v3E (q : V3) : List Value := vwv q.1 q.2.1 q.2.2
theorem v3E_len (q : V3) : (v3E q).length = 16 := rfl
def mkV (t : Nat) : V3 := ((t : Int), zCr, .slice none 0 0)
theorem builtMV (t : Int) : Tryz.prog.built 29 [(0, .int .u64 t)] = some (vwv t zCr (.slice none 0 0)).toArray := by kernel_rfl
theorem v3E_one (t : Nat) : ∀ u ∈ v3E (mkV t), u.oneCell' = true := vwv_one _ _ _ ⟨_, _, _, rfl⟩
theorem fl_v3 (tick : Int) (Vs : List Vt) : fl (vwE tick) Vs = fl v3E (Vs.map (fun q => (tick, q.1, q.2.1))) := by
  unfold fl
  rw [List.flatMap_map]
  rfl
/-- behind k writes -/
def wrV (T : List V3) (t k : Nat) : List V3 := List.replicate k (mkV t) ++ T.drop k
theorem wrV_zero (T : List V3) (t : Nat) : wrV T t 0 = T := by simp [wrV]
theorem wrV_len (T : List V3) (t k : Nat) (hk : k ≤ T.length) : (wrV T t k).length = T.length := by simp [wrV]; omega
theorem wrV_set (T : List V3) (t k : Nat) (hk : k < T.length) : (wrV T t k).set k (mkV t) = wrV T t (k + 1) := by
  unfold wrV
  rw [List.set_append_right _ _ (by simp), List.length_replicate, Nat.sub_self, List.drop_eq_getElem_cons hk, List.set_cons_zero, List.replicate_succ']
  simp
theorem wrV_end (T : List V3) (t n : Nat) (hn : T.length = n) : wrV T t n = List.replicate n (mkV t) := by subst hn; simp [wrV]
theorem under60 : Tryz.prog.underlying 60 = some (.slice 52) := by kernel_rfl
theorem info52b : ∃ i, Tryz.prog.info? 52 = some i ∧ i.size = 1 ∧ i.bytes = 24 ∧ i.zero = some (.slice none 0 0) := by
  have h : (Tryz.prog.info? 52).map (fun i => (i.size, i.bytes, i.zero)) = some (1, 24, some (.slice none 0 0)) := by kernel_rfl
  cases e : Tryz.prog.info? 52 with
  | none => rw [e] at h; cases h
  | some i =>
    rw [e] at h
    simp only [Option.map_some, Option.some.injEq, Prod.mk.injEq] at h
    exact ⟨i, rfl, h.1, h.2.1, h.2.2⟩
theorem bsW (a : Option Addr) (n c : Nat) (W : World) : (Instr.buildSlice 60 1 #[(0, .slice a n c)]).run Tryz.prog W = .ok (sl W.heap.size 1 1) (W.alloc (.cells #[.slice a n c] 52)) := by kernel_rfl
/-- one list of views more -/
theorem Sep.appW {w0 W : World} {l : List As} {v : Value} {n : Nat} {xs : List Value} (a : Option Addr) (m c : Nat) (h : Sep w0 W (rowV 52 1 v n xs :: l)) (hm : (n + 1) * 24 ≤ 140737488355328) :
    ∃ g9 c9 W', (Builtin.append_ #[60, 60] 60 #[v, sl W.heap.size 1 1]).run Tryz.prog (W.alloc (.cells #[.slice a m c] 52)) = .ok (sl g9 (n + 1) c9) W' ∧ Sep w0 W' (rowV 52 1 (sl g9 (n + 1) c9) (n + 1) (xs ++ [.slice a m c]) :: l) := by
  obtain ⟨i, i1, i2, i3, i4⟩ := info52b
  exact Sep.app (z := .slice none 0 0) (bytes := 24) under60 i1 i4 i2 i3 rfl (by decide) h [.slice a m c] rfl (fun u hu => by rw [List.mem_singleton.1 hu]; rfl) hm (by decide)
theorem pm1 {a b c d x : As} {A D : List As} {w0 W : World} (h : Sep w0 W (a :: b :: c :: d :: (A ++ (x :: D)))) : Sep w0 W (a :: b :: x :: c :: d :: (A ++ D)) :=
  h.perm (((List.perm_middle (l₁ := c :: d :: A)).cons _).cons _)
theorem pm2 {a b c d x : As} {A D : List As} {w0 W : World} (h : Sep w0 W (a :: b :: x :: c :: d :: (A ++ D))) : Sep w0 W (a :: b :: c :: d :: ((A ++ [x]) ++ D)) := by
  rw [List.append_assoc, List.singleton_append]
  exact h.perm (((List.perm_middle (l₁ := c :: d :: A)).symm.cons _).cons _)
set_option maxRecDepth 100000 in
set_option maxHeartbeats 16000000 in
theorem kviews_c (w0 W : World) (l : List As) (kb : Nat) (tick : Int) (vL vG vV vX vl : Value) (m p n : Nat) (xs ys : List Value) (Vs : List Vt) (hn : Vs.length = n) (hnb : n ≤ 1048576) (hmb : m ≤ 549755813888) (hpb : p ≤ 549755813888) (hq : ∀ q ∈ Vs, q.2.2.length ≤ 1048576)
    (h : Sep w0 W (boxA kb [vL, vG, vV, vX] 62 :: rowV 27 1 vL m xs :: rowV 52 1 vV p ys :: rowV 29 16 vl n (fl (vwE tick) Vs) :: (Vs.map rwE ++ l))) :
    Calls Tryz.prog 21 #[pt kb, vl] W fun e W' => e = .returned (.tuple #[]) ∧ ∃ vL' vV', Sep w0 W' (boxA kb [vL', vG, vV', vX] 62 :: rowV 27 1 vL' (m + n) (xs ++ Vs.map (fun q => q.2.1)) :: rowV 52 1 vV' (p + 1) (ys ++ [vl]) :: rowV 29 16 vl n (fl v3E (List.replicate n (mkV p))) :: (mksA Vs m ++ l)) := by
  obtain ⟨aV, cV, rfl⟩ := own_slice (h.rowGet k2m)
  obtain ⟨av, cv, rfl⟩ := own_slice (h.rowGet k3m)
  have HB : Keep (∃ v, Sep w0 W (boxA kb [v, vG, .slice aV p cV, vX] 62 :: rowV 27 1 (v) (m + 0) (xs ++ (Vs.take 0).map (fun q => q.2.1)) :: rowV 52 1 (.slice aV p cV) p ys :: rowV 29 16 (.slice av n cv) n (fl (vwE tick) Vs) :: (mksA (Vs.take 0) m ++ ((Vs.drop 0).map rwE ++ l)))) := ⟨vL, by simpa [mksA] using h⟩
  have HTN := Keep.mk hn
  have HNB := Keep.mk (And.intro hnb (And.intro hmb hpb))
  have HQ := Keep.mk hq
  obtain ⟨dv, hdv⟩ := under29
  clear h hn hnb hmb hpb hq
  go_enter Tryz.func21, Tryz.ntmps21
  go_wp2_with fail
  go_loopw [4] (fun u4 wr => ∃ i : Nat, i ≤ n ∧ u4 = iv i ∧ Keep (∃ v, Sep w0 wr (boxA kb [v, vG, .slice aV p cV, vX] 62 :: rowV 27 1 (v) (m + i) (xs ++ (Vs.take i).map (fun q => q.2.1)) :: rowV 52 1 (.slice aV p cV) p ys :: rowV 29 16 (.slice av n cv) n (fl (vwE tick) Vs) :: (mksA (Vs.take i) m ++ ((Vs.drop i).map rwE ++ l))))) (fun u4 _ => (n - intOf u4).toNat)
  case atStart => exact ⟨0, Nat.zero_le _, rfl, HB⟩
  case round =>
    clear HB
    obtain ⟨i, hi, rfl, HB⟩ := hrel
    obtain ⟨vL, HB⟩ := HB.out
    replace HB := Keep.mk HB
    by_cases hlt : i < n
    · have hlt1 : (i : Int) < (n : Int) := by omega
      have hi0 : (0 : Int) ≤ (i : Int) := by omega
      have hit : ((i : Nat) : Int).toNat = i := by omega
      have hiw : IntKind.i64.wrap ((i : Int) + 1) = ((i + 1 : Nat) : Int) := by rw [IntKind.wrap_i64]; have := HNB.out; omega
      have HIN : Keep (i < n) := ⟨hlt⟩
      obtain ⟨q, hqi⟩ : ∃ q, Vs[i]? = some q := ⟨_, List.getElem?_eq_getElem (by rw [HTN.out]; exact hlt)⟩
      have HQI := Keep.mk hqi
      have hil : i < Vs.length := by rw [HTN.out]; exact hlt
      have HDR : Keep (Vs.drop i = q :: Vs.drop (i + 1) ∧ Vs.take (i + 1) = Vs.take i ++ [q]) := ⟨⟨by
        rw [List.drop_eq_getElem_cons hil]
        rw [List.getElem?_eq_getElem hil] at hqi
        injection hqi with hqi
        rw [hqi], by rw [List.take_add_one, hqi]; rfl⟩⟩
      have HQL : Keep (q.2.2.length ≤ 1048576) := ⟨HQ.out q (List.mem_of_getElem? hqi)⟩
      obtain ⟨gv, hgv⟩ : ∃ g, av = some ⟨g, 0, none⟩ := by
        obtain ⟨g, c', e1, _⟩ := own_any (HB.out.rowGet k3m) (by omega)
        injection e1 with e1 _ _
        exact ⟨g, e1⟩
      subst hgv
      have HRG : Keep (wr.rangeAt gv (i * 16) (vwv tick q.1 q.2.1)) := ⟨fl_range (vwE_len tick) (HB.out.rowGet k3m) (by omega) i q hqi⟩
      clear hlt hi hqi hil
      go_wp2_with (first
        | (with_reducible show wpList _ _ _ ({ dst := some 16, op := Op.load 29 _, type := _, pos := _, after := _, guard := _ } :: _) _ _
           refine wpList_load_mid rfl 29 _ rfl _ _ rfl (vwv tick q.1 q.2.1) _ HRG.out hdv.1 hdv.2 info29 ?_))
      replace HB : Keep (Sep w0 wr (boxA kb [vL, vG, .slice aV p cV, vX] 62 :: rowV 27 1 vL (m + i) (xs ++ (Vs.take i).map (fun q => q.2.1)) :: rwE q :: rowV 52 1 (.slice aV p cV) p ys :: rowV 29 16 (.slice (some ⟨gv, 0, none⟩) n cv) n (fl (vwE tick) Vs) :: (mksA (Vs.take i) m ++ ((Vs.drop (i + 1)).map rwE ++ l)))) := ⟨by
        have q' := HB.out
        rw [HDR.out.1, List.map_cons, List.cons_append] at q'
        exact pm1 q'⟩
      clear HRG
      refine (kview_c w0 wr _ kb tick q.1 vL vG (.slice aV p cV) vX q.2.1 (m + i) q.2.2.length _ q.2.2 rfl HQL.out (by have := HNB.out; have := HIN.out; omega) HB.out).mono ?_
      rintro e w5 ⟨rfl, vL', S5⟩
      have HB5 : Keep (∃ v, Sep w0 w5 (boxA kb [v, vG, .slice aV p cV, vX] 62 :: rowV 27 1 (v) (m + (i + 1)) (xs ++ (Vs.take (i + 1)).map (fun q => q.2.1)) :: rowV 52 1 (.slice aV p cV) p ys :: rowV 29 16 (.slice (some ⟨gv, 0, none⟩) n cv) n (fl (vwE tick) Vs) :: (mksA (Vs.take (i + 1)) m ++ ((Vs.drop (i + 1)).map rwE ++ l)))) := ⟨vL', by
        have q' := pm2 S5
        rw [HDR.out.2, List.map_append, ← List.append_assoc, mksA_app, List.length_take, Nat.min_eq_left (by rw [HTN.out]; exact Nat.le_of_lt HIN.out)]
        exact q'⟩
      clear HB S5
      go_wp2_with fail
      go_roundw
      case rel => exact ⟨i + 1, HIN.out, rfl, HB5⟩
      case measure => simp [intOf]; have := HIN.out; omega
    · have hlt1 : ¬ (i : Int) < (n : Int) := by omega
      obtain rfl : i = n := by omega
      have HB : Keep (Sep w0 wr (boxA kb [vL, vG, .slice aV p cV, vX] 62 :: rowV 27 1 vL (m + i) (xs ++ Vs.map (fun q => q.2.1)) :: rowV 52 1 (.slice aV p cV) p ys :: rowV 29 16 (.slice av i cv) i (fl v3E (wrV (Vs.map (fun q => (tick, q.1, q.2.1))) p 0)) :: (mksA Vs m ++ l))) := ⟨by
        have q' := HB.out
        rw [List.take_of_length_le (Nat.le_of_eq HTN.out), List.drop_of_length_le (Nat.le_of_eq HTN.out), fl_v3] at q'
        rw [wrV_zero]
        exact q'⟩
      clear hlt hi
      go_wp2_with fail
      go_loopw [5] (fun u5 wr => ∃ j : Nat, j ≤ i ∧ u5 = iv j ∧ Keep (Sep w0 wr (boxA kb [vL, vG, .slice aV p cV, vX] 62 :: rowV 27 1 vL (m + i) (xs ++ Vs.map (fun q => q.2.1)) :: rowV 52 1 (.slice aV p cV) p ys :: rowV 29 16 (.slice av i cv) i (fl v3E (wrV (Vs.map (fun q => (tick, q.1, q.2.1))) p j)) :: (mksA Vs m ++ l)))) (fun u5 _ => (i - intOf u5).toNat)
      case atStart => exact ⟨0, Nat.zero_le _, rfl, HB⟩
      case round =>
        clear HB
        obtain ⟨j, hj, rfl, HB⟩ := hrel
        by_cases hjt : j < i
        · have hj1 : (j : Int) < (i : Int) := by omega
          have hj0 : (0 : Int) ≤ (j : Int) := by omega
          have hjn : ((j : Nat) : Int).toNat = j := by omega
          have hjw : IntKind.i64.wrap ((j : Int) + 1) = ((j + 1 : Nat) : Int) := by rw [IntKind.wrap_i64]; have := HNB.out; omega
          have hpw : IntKind.u64.wrap (p : Int) = (p : Int) := by rw [IntKind.wrap_u64]; have := HNB.out; omega
          have HJN : Keep (j < i) := ⟨hjt⟩
          obtain ⟨gv, hgv⟩ : ∃ g, av = some ⟨g, 0, none⟩ := by
            obtain ⟨g, c', e1, _⟩ := own_any (HB.out.rowGet k3m) (by omega)
            injection e1 with e1 _ _
            exact ⟨g, e1⟩
          subst hgv
          have c2 := (HB.out.boxGet k0m).cellv 2 _ rfl
          have HBV := Keep.mk (builtMV (p : Int))
          have HRW := Keep.mk (HB.out.rowGet k3m)
          have HWL : Keep ((wrV (Vs.map (fun q => (tick, q.1, q.2.1))) p j).length = i) := ⟨by rw [wrV_len _ _ _ (by rw [List.length_map, HTN.out]; exact Nat.le_of_lt hjt), List.length_map, HTN.out]⟩
          clear hjt hj
          go_wp2_with (first
            | (with_reducible show wpList _ _ _ ({ dst := some 32, op := Op.build 29 _, type := _, pos := _, after := _, guard := _ } :: _) _ _
               refine wpList_build rfl 29 _ rfl (vwv (p : Int) zCr (.slice none 0 0)).toArray ((congrArg (Tryz.prog.built 29) (by first | (simp only [List.map_toArray, List.map_cons, List.map_nil, Act.eval]; done) | (simp only [List.map_toArray, List.map_cons, List.map_nil, Act.eval]; with_reducible rfl) | (simp only [List.map_toArray, List.map_cons, List.map_nil, Act.eval]; rfl))).trans HBV.out) ?_
               simp only [Act.put, List.setIfInBounds_toArray, List.set_cons_zero, List.set_cons_succ])
            | (with_reducible show wpList _ _ _ ({ dst := _, op := Op.store 29 _ _, type := _, pos := _, after := _, guard := _ } :: _) _ _
               refine store_row v3E_len wr gv i cv j (wrV (Vs.map (fun q => (tick, q.1, q.2.1))) p j) (mkV p) 29 29 rfl rfl rfl rfl HRW.out HWL.out HJN.out info29 (v3E_one p) ?_))
          intro w6 hS6 g6
          have S6 := bk1 [_, _, _] (hS6 _ _ (fr1 [_, _, _] HB.out))
          rw [wrV_set _ _ _ (by rw [List.length_map, HTN.out]; exact HJN.out)] at S6
          have HB6 := Keep.mk S6
          clear S6 hS6 g6 HB c2
          go_wp2_with fail
          go_roundw
          case rel => exact ⟨j + 1, HJN.out, rfl, HB6⟩
          case measure => simp [intOf]; have := HJN.out; omega
        · have hj1 : ¬ (j : Int) < (i : Int) := by omega
          obtain rfl : j = i := by omega
          rw [wrV_end _ p j (by rw [List.length_map, HTN.out])] at HB
          have c2 := (HB.out.boxGet k0m).cellv 2 _ rfl
          obtain ⟨g9, c9, w9, ap, S9⟩ := Sep.appW av j cv (fr1 [_, _] HB.out) (by have := HNB.out; omega)
          have AP := Keep.mk ap
          have HBS := Keep.mk (bsW av j cv)
          have z2 := (S9.boxGet k1m).cellv 2 _ rfl
          have y2 := (S9.boxGet k1m).frozen 2
          have S10 := S9.swap.boxPut 2 (sl g9 (p + 1) c9)
          obtain ⟨w10, hw10⟩ : ∃ w, w9.setCell ⟨kb, 2, none⟩ (sl g9 (p + 1) c9) = w := ⟨_, rfl⟩
          rw [hw10] at S10
          have HF := Keep.mk S10
          clear S9 S10 ap hjt hj
          go_wp2_with (first
            | (with_reducible show wpList _ _ _ ({ dst := some 40, op := Op.buildSlice 60 _ _, type := _, pos := _, after := _, guard := _ } :: _) _ _
               refine wpList_bs_run rfl (.tmp 39) 60 rfl _ rfl (HBS.out _) ?_)
            | (with_reducible show wpList _ _ _ ({ dst := some 41, op := Op.call { callee := Callee.builtin Builtin.append, args := _, argTypes := _ }, type := _, pos := _, after := _, guard := _ } :: _) _ _
               refine wpList_append_run _ rfl (.tmp 38) (.tmp 40) 60 rfl _ _ rfl rfl AP.out ?_))
          go_end0
          refine ⟨rfl, vL, sl g9 (p + 1) c9, ?_⟩
          have q : Sep w0 w10 (boxA kb [vL, vG, sl g9 (p + 1) c9, vX] 62 :: rowV 52 1 (sl g9 (p + 1) c9) (p + 1) (ys ++ [.slice av j cv]) :: rowV 27 1 vL (m + j) (xs ++ Vs.map (fun q => q.2.1)) :: rowV 29 16 (.slice av j cv) j (fl v3E (List.replicate j (mkV p))) :: (mksA Vs m ++ l)) := HF.out
          exact q.perm ((List.Perm.swap _ _ _).cons _)
end Go.Proofs.YtgedlabmndlooaaGreat

namespace Go.Proofs.YtgedlabmndlooaaGreat
open Go Go.RowKit Go.Maps Go.Shelf Go.Lib Go.Sort

/-- a list that was told, and the longer one -/
structure Pk where
  va : Value
  vo : Value
  n : Nat
/-- n marks of the number t, as cells -/
def csL (t n : Nat) : List Value := fl snv (List.replicate n (mkN t))
def csV (t n : Nat) : List Value := fl v3E (List.replicate n (mkV t))
theorem csL_add (t n : Nat) : csL t (n + 1) = csL t n ++ snv (mkN t) := by
  unfold csL
  rw [List.replicate_succ', fl_app]
  simp [fl]
theorem csV_add (t n : Nat) : csV t (n + 2) = csV t n ++ (v3E (mkV t) ++ v3E (mkV t)) := by
  unfold csV
  rw [List.replicate_succ', List.replicate_succ', fl_app, fl_app]
  simp [fl]
theorem csL_get (t n k : Nat) (hk : k < n) : (csL t n)[k * 5]? = some (iv (-1 - (t : Int))) := by
  have q := fl_get snv_len (List.replicate n (mkN t)) k (mkN t) 0 (iv (-1 - (t : Int))) (by rw [List.getElem?_replicate, if_pos hk]) rfl
  rw [Nat.add_zero] at q
  exact q
theorem csV_get (t n k : Nat) (hk : k < n) : (csV t n)[k * 16]? = some (.int .u64 (t : Int)) := by
  have q := fl_get v3E_len (List.replicate n (mkV t)) k (mkV t) 0 (.int .u64 (t : Int)) (by rw [List.getElem?_replicate, if_pos hk]) rfl
  rw [Nat.add_zero] at q
  exact q
theorem csV_get15 (t n k : Nat) (hk : k < n) : (csV t n)[k * 16 + 15]? = some (.slice none 0 0) :=
  fl_get v3E_len (List.replicate n (mkV t)) k (mkV t) 15 (.slice none 0 0) (by rw [List.getElem?_replicate, if_pos hk]) rfl
/-- lists that are to be lengthened; lists that were -/
def newX (e : TypeId) (s : Nat) (cs : Nat → Nat → List Value) : List (Value × Nat) → Nat → List As
  | [], _ => []
  | x :: r, t => rowV e s x.1 x.2 (cs t x.2) :: newX e s cs r (t + 1)
def rdsX (d : Nat) (cs : Nat → Nat → List Value) : List Pk → Nat → List As
  | [], _ => []
  | p :: r, t => prK p.va p.n (cs t p.n) p.vo (p.n + d) (cs t (p.n + d)) :: rdsX d cs r (t + 1)
theorem rdsX_app (d : Nat) (cs : Nat → Nat → List Value) : ∀ (P : List Pk) (p : Pk) (t : Nat), rdsX d cs (P ++ [p]) t = rdsX d cs P t ++ [prK p.va p.n (cs (t + P.length) p.n) p.vo (p.n + d) (cs (t + P.length) (p.n + d))]
  | [], p, t => rfl
  | q :: r, p, t => by
    rw [List.cons_append, rdsX, rdsX_app d cs r p (t + 1), rdsX, List.length_cons, List.cons_append, show t + 1 + r.length = t + (r.length + 1) by omega]
theorem rdsX_mem (d : Nat) (cs : Nat → Nat → List Value) : ∀ (P : List Pk) (t i : Nat) (p : Pk), P[i]? = some p → prK p.va p.n (cs (t + i) p.n) p.vo (p.n + d) (cs (t + i) (p.n + d)) ∈ rdsX d cs P t
  | [], _, _, _, h => by simp at h
  | q :: r, t, 0, p, h => by
    simp only [List.getElem?_cons_zero, Option.some.injEq] at h
    subst h
    exact List.mem_cons_self ..
  | q :: r, t, i + 1, p, h => by
    have := rdsX_mem d cs r (t + 1) i p (by simpa using h)
    rw [show t + 1 + i = t + (i + 1) by omega] at this
    exact List.mem_cons_of_mem _ this
theorem row_cell {W : World} {e : TypeId} {g n c k : Nat} {xs : List Value} {t : Value} (h : W.ownsRow 0 e 1 (sl g n c) n xs) (hn : 0 < n) (hk : xs[k]? = some t) : W.cell? ⟨g, k, none⟩ = some t ∧ W.frozen? ⟨g, k, none⟩ = false := by
  obtain ⟨g', c', e, q⟩ := own_any h hn
  injection e with e1
  injection e1 with e1
  injection e1 with e1
  subst e1
  exact q k t hk
theorem row_block {w0 W : World} {l : List As} {e : TypeId} {s : Nat} {a : Option Addr} {n c : Nat} {xs : List Value} (h : Sep w0 W l) (hm : rowV e s (.slice a n c) n xs ∈ l) (hn : 0 < n) : ∃ g, a = some ⟨g, 0, none⟩ := by
  obtain ⟨g, c', e, _⟩ := own_any (h.rowGet hm) hn
  injection e with e1 _ _
  exact ⟨g, e1⟩
theorem row_len {w0 W : World} {l : List As} {e : TypeId} {v : Value} {n : Nat} {xs : List Value} (h : Sep w0 W l) (hm : rowV e 1 v n xs ∈ l) : xs.length = n := by
  have q := (h.rowGet hm).1
  omega
theorem bsM (x : Sn) (W : World) : (Instr.buildSlice 27 1 #[(0, .agg (snv x).toArray)]).run Tryz.prog W = .ok (sl W.heap.size 1 1) (W.alloc (.cells (snv x).toArray 33)) := by kernel_rfl
theorem bsMV (t : Nat) (W : World) : (Instr.buildSlice 52 2 #[(0, .agg (v3E (mkV t)).toArray), (1, .agg (v3E (mkV t)).toArray)]).run Tryz.prog W = .ok (sl W.heap.size 2 2) (W.alloc (.cells (v3E (mkV t) ++ v3E (mkV t)).toArray 29)) := by kernel_rfl
theorem Sep.lmApp {w0 W : World} {l : List As} {o : Option Nat} {xs : List Value} {v : Value} (t n k : Nat) (h : Sep w0 W (lvK 33 5 o xs v n (csL t k) :: l)) (hk : k = n) (hm : (n + 1) * 40 ≤ 140737488355328) :
    ∃ g9 c9 W', (Builtin.append_ #[27, 27] 27 #[v, sl W.heap.size 1 1]).run Tryz.prog (W.alloc (.cells (snv (mkN t)).toArray 33)) = .ok (sl g9 (n + 1) c9) W' ∧ Sep w0 W' (lvK 33 5 o xs (sl g9 (n + 1) c9) (n + 1) (csL t (n + 1)) :: l) := by
  subst hk
  obtain ⟨i, i1, i2, i3, i4⟩ := infoBN
  rw [csL_add]
  exact Sep.lwApp (t := 27) undN i1 i4 i2 i3 rfl (by decide) (by decide) 1 (snv (mkN t)) rfl (snv_one _) (by decide) h hm
theorem undW : Tryz.prog.underlying 52 = some (.slice 29) := by kernel_rfl
theorem Sep.lvApp {w0 W : World} {l : List As} {o : Option Nat} {xs : List Value} {v : Value} (t n : Nat) (h : Sep w0 W (lvK 29 16 o xs v n (csV t n) :: l)) (hm : (n + 2) * 152 ≤ 140737488355328) :
    ∃ g9 c9 W', (Builtin.append_ #[52, 52] 52 #[v, sl W.heap.size 2 2]).run Tryz.prog (W.alloc (.cells (v3E (mkV t) ++ v3E (mkV t)).toArray 29)) = .ok (sl g9 (n + 2) c9) W' ∧ Sep w0 W' (lvK 29 16 o xs (sl g9 (n + 2) c9) (n + 2) (csV t (n + 2)) :: l) := by
  obtain ⟨i, i1, i2, i3, i4⟩ := infoV
  rw [csV_add]
  exact Sep.lwApp (t := 52) undW i1 i4 i2 i3 rfl (by decide) (by decide) 2 (v3E (mkV t) ++ v3E (mkV t)) rfl (fun u hu => by
    rcases List.mem_append.1 hu with hu | hu <;> exact v3E_one t u hu) (by decide) h hm
theorem pk3 {k G p L V X : As} {A B R : List As} {w0 W : World} (h : Sep w0 W (k :: G :: p :: L :: V :: X :: (A ++ (B ++ R)))) : Sep w0 W (k :: L :: G :: V :: X :: (A ++ ((B ++ [p]) ++ R))) := by
  refine h.perm (List.Perm.cons _ ?_)
  have q1 : (G :: p :: L :: V :: X :: (A ++ (B ++ R))).Perm (p :: G :: L :: V :: X :: (A ++ (B ++ R))) := List.Perm.swap _ _ _
  have q2 : (p :: G :: L :: V :: X :: (A ++ (B ++ R))).Perm (G :: L :: V :: X :: (A ++ (B ++ (p :: R)))) := by
    have e : G :: L :: V :: X :: (A ++ (B ++ (p :: R))) = (G :: L :: V :: X :: (A ++ B)) ++ p :: R := by simp
    have e2 : G :: L :: V :: X :: (A ++ (B ++ R)) = (G :: L :: V :: X :: (A ++ B)) ++ R := by simp
    rw [e, e2]
    exact List.perm_middle.symm
  have q3 : (G :: L :: V :: X :: (A ++ (B ++ (p :: R)))).Perm (L :: G :: V :: X :: (A ++ (B ++ (p :: R)))) := List.Perm.swap _ _ _
  have e3 : A ++ ((B ++ [p]) ++ R) = A ++ (B ++ (p :: R)) := by simp
  rw [e3]
  exact (q1.trans q2).trans q3
theorem pk4 {k X p L V G : As} {A B R : List As} {w0 W : World} (h : Sep w0 W (k :: X :: p :: V :: L :: G :: (A ++ (B ++ R)))) : Sep w0 W (k :: L :: G :: V :: X :: (A ++ ((B ++ [p]) ++ R))) := by
  refine (pk3 (G := X) (L := V) (V := L) (X := G) h).perm (List.Perm.cons _ ?_)
  have q1 : (V :: X :: L :: G :: (A ++ ((B ++ [p]) ++ R))).Perm (L :: V :: X :: G :: (A ++ ((B ++ [p]) ++ R))) := (List.perm_middle (l₁ := [V, X]) (a := L))
  have q2 : (V :: X :: G :: (A ++ ((B ++ [p]) ++ R))).Perm (G :: V :: X :: (A ++ ((B ++ [p]) ++ R))) := (List.perm_middle (l₁ := [V, X]) (a := G))
  exact q1.trans (q2.cons _)
theorem wp_bs2 {P : Program} {o : Oper} {a : Act} {w : World} {K : Act → World → Prop} {Q : Exit → Act → World → Prop} (t : TypeId) (n : Nat) (x y : Operand)
    (ho : o.op = .buildSlice t n #[(0, x), (1, y)]) (u v : Value) (hx : a.eval x = u) (hy : a.eval y = v) {v' : Value} {w' : World}
    (hr : (Instr.buildSlice t n #[(0, u), (1, v)]).run P w = .ok v' w') (h : K (a.put o.dst v') w') : Oper.wp P o a w K Q := by
  unfold Oper.wp execOp
  simp only [ho, Sem.run_bind, Sem.run_pure, Result.andThen_ok, List.map_toArray, List.map_cons, List.map_nil, hx, hy, hr]
  exact h
theorem wp_bs1 {P : Program} {o : Oper} {a : Act} {w : World} {K : Act → World → Prop} {Q : Exit → Act → World → Prop} (t : TypeId) (n : Nat) (x : Operand)
    (ho : o.op = .buildSlice t n #[(0, x)]) (u : Value) (hx : a.eval x = u) {v' : Value} {w' : World}
    (hr : (Instr.buildSlice t n #[(0, u)]).run P w = .ok v' w') (h : K (a.put o.dst v') w') : Oper.wp P o a w K Q := by
  unfold Oper.wp execOp
  simp only [ho, Sem.run_bind, Sem.run_pure, Result.andThen_ok, List.map_toArray, List.map_cons, List.map_nil, hx, hr]
  exact h
theorem pk5 {k L G V X p : As} {A Z : List As} {w0 W : World} (h : Sep w0 W (k :: L :: G :: V :: X :: (A ++ (p :: Z)))) : Sep w0 W (p :: k :: V :: X :: L :: G :: (A ++ Z)) := by
  refine h.perm ?_
  have q1 : (k :: L :: G :: V :: X :: (A ++ (p :: Z))).Perm (p :: k :: L :: G :: V :: X :: (A ++ Z)) := by
    have e : k :: L :: G :: V :: X :: (A ++ (p :: Z)) = (k :: L :: G :: V :: X :: A) ++ p :: Z := by simp
    rw [e]
    exact List.perm_middle
  have q2 : (L :: G :: V :: X :: (A ++ Z)).Perm (V :: L :: G :: X :: (A ++ Z)) := List.perm_middle (l₁ := [L, G]) (a := V)
  have q3 : (L :: G :: X :: (A ++ Z)).Perm (X :: L :: G :: (A ++ Z)) := List.perm_middle (l₁ := [L, G]) (a := X)
  exact q1.trans (((q2.trans (q3.cons _)).cons _).cons _)
/-- what stands behind the call -/
structure StR (w0 W' : World) (l : List As) (kb : Nat) (vL vV : Value) (A C : Nat) (XS YS : List Value) : Prop where
  o : ∃ (vG' vX' : Value) (P' PV' : List Pk), P'.length = A ∧ P'.map Pk.va = XS ∧ (∀ p ∈ P', p.n ≤ 1048576) ∧ PV'.length = C ∧ PV'.map Pk.va = YS ∧ (∀ p ∈ PV', p.n ≤ 1048576) ∧ Sep w0 W' (boxA kb [vL, vG', vV, vX'] 62 :: rowV 27 1 vL A XS :: rowV 27 1 vG' A (P'.map Pk.vo) :: rowV 52 1 vV C YS :: rowV 52 1 vX' C (PV'.map Pk.vo) :: (rdsX 40 csL P' 0 ++ (rdsX 2 csV PV' 0 ++ l)))
set_option maxRecDepth 100000 in
set_option maxHeartbeats 16000000 in
theorem stands_c (w0 W : World) (l : List As) (kb : Nat) (vL vG vV vX : Value) (A i C c : Nat) (XS YS : List Value) (P PV : List Pk) (Nn NV : List (Value × Nat)) (hA : A ≤ 549755813888) (hC : C ≤ 549755813888) (hi : i ≤ A) (hc : c ≤ C)
    (hP : P.length = i ∧ P.map Pk.va ++ Nn.map (fun x => x.1) = XS ∧ (∀ x ∈ Nn, x.2 ≤ 1048576) ∧ ∀ p ∈ P, p.n ≤ 1048576) (hV : PV.length = c ∧ PV.map Pk.va ++ NV.map (fun x => x.1) = YS ∧ (∀ x ∈ NV, x.2 ≤ 1048576) ∧ ∀ p ∈ PV, p.n ≤ 1048576)
    (h : Sep w0 W (boxA kb [vL, vG, vV, vX] 62 :: rowV 27 1 vL A XS :: rowV 27 1 vG i (P.map Pk.vo) :: rowV 52 1 vV C YS :: rowV 52 1 vX c (PV.map Pk.vo) :: (newX 33 5 csL Nn i ++ (rdsX 40 csL P 0 ++ (newX 29 16 csV NV c ++ (rdsX 2 csV PV 0 ++ l)))))) :
    Calls Tryz.prog 22 #[pt kb] W fun e W' => e = .returned (.bool true) ∧ StR w0 W' l kb vL vV A C XS YS := by
  obtain ⟨aL, cL, rfl⟩ := own_slice (h.rowGet k1m)
  obtain ⟨aG, cG, rfl⟩ := own_slice (h.rowGet k2m)
  obtain ⟨aV, cV, rfl⟩ := own_slice (h.rowGet k3m)
  obtain ⟨aX, cX, rfl⟩ := own_slice (h.rowGet k4m)
  have HB := Keep.mk h
  have HP := Keep.mk hP
  have HPV := Keep.mk hV
  have HAC : Keep (A ≤ 549755813888 ∧ C ≤ 549755813888) := ⟨⟨hA, hC⟩⟩
  have HIA := Keep.mk hi
  have HIC := Keep.mk hc
  have cb1 := (h.boxGet k0m).cellv 1 _ rfl
  clear h hP hV hA hC hi hc
  go_enter Tryz.func22, Tryz.ntmps22
  go_wp2_with fail
  clear cb1
  go_loopw [3, 4, 5] (fun u3 u4 u5 wr => ∃ (P : List Pk) (Nn : List (Value × Nat)) (i : Nat) (aG : Option Addr) (cG : Nat), u3 = iv i ∧ i ≤ A ∧ Keep (P.length = i ∧ P.map Pk.va ++ Nn.map (fun x => x.1) = XS ∧ (∀ x ∈ Nn, x.2 ≤ 1048576) ∧ ∀ p ∈ P, p.n ≤ 1048576) ∧ Keep (Sep w0 wr (boxA kb [.slice aL A cL, .slice aG i cG, .slice aV C cV, .slice aX c cX] 62 :: rowV 27 1 (.slice aL A cL) A XS :: rowV 27 1 (.slice aG i cG) i (P.map Pk.vo) :: rowV 52 1 (.slice aV C cV) C YS :: rowV 52 1 (.slice aX c cX) c (PV.map Pk.vo) :: (newX 33 5 csL Nn i ++ (rdsX 40 csL P 0 ++ (newX 29 16 csV NV c ++ (rdsX 2 csV PV 0 ++ l))))))) (fun u3 _ _ _ => (A - intOf u3).toNat)
  case atStart => exact ⟨P, Nn, i, aG, cG, rfl, HIA.out, HP, HB⟩
  case round =>
    clear HB HP HIA
    obtain ⟨P, Nn, i, aG, cG, rfl, hi, HP, HB⟩ := hrel
    have cb0 := (HB.out.boxGet k0m).cellv 0 _ rfl
    by_cases hlt : i < A
    · cases Nn with
      | nil => exact absurd (row_len HB.out k1m) (by rw [← HP.out.2.1, List.length_append, List.length_map, HP.out.1, List.map_nil, List.length_nil]; omega)
      | cons x0 N' =>
        obtain ⟨v0, n0⟩ := x0
        have S1 := fr1 [_, _, _, _, _] HB.out
        obtain ⟨a0, c0, e0⟩ := own_slice (S1.rowGet k0m)
        have e0 : v0 = .slice a0 n0 c0 := e0
        subst e0
        obtain ⟨gL, hgL⟩ := row_block HB.out k1m (by omega)
        subst hgL
        have hXi : XS[i]? = some (.slice a0 n0 c0) := by
          rw [← HP.out.2.1, List.getElem?_append_right (by rw [List.length_map, HP.out.1]; exact Nat.le_refl _), List.length_map, HP.out.1, Nat.sub_self]
          rfl
        have cLi := (row_cell (k := i) (HB.out.rowGet k1m) (by omega) hXi).1
        obtain ⟨o, S2, ho1, ho2⟩ := Sep.lwStart S1
        have HO : Keep ((o = none → n0 = 0) ∧ ∀ g, o = some g → ∃ c, Value.slice a0 n0 c0 = sl g n0 c) := ⟨⟨ho1, ho2⟩⟩
        have hi0 : (0 : Int) ≤ (i : Int) := by omega
        have hi1 : (i : Int) < (A : Int) := by omega
        have hit : ((i : Nat) : Int).toNat = i := by omega
        have HIN : Keep (i < A) := ⟨hlt⟩
        have HIB : Keep (i ≤ 1099511627776) := ⟨by have := HAC.out; omega⟩
        have hiw : IntKind.i64.wrap ((i : Int) + 1) = ((i + 1 : Nat) : Int) := by rw [IntKind.wrap_i64]; have := HIB.out; omega
        have HN0 : Keep (n0 ≤ 1048576) := ⟨HP.out.2.2.1 _ (List.mem_cons_self ..)⟩
        have HP2 : Keep (∀ (ax : Option Addr) (cx : Nat), (P ++ [⟨.slice a0 n0 c0, .slice ax (n0 + 40) cx, n0⟩] : List Pk).length = (i + 1) ∧ (P ++ [⟨.slice a0 n0 c0, .slice ax (n0 + 40) cx, n0⟩] : List Pk).map Pk.va ++ N'.map (fun x => x.1) = XS ∧ (∀ x ∈ N', x.2 ≤ 1048576) ∧ ∀ p ∈ (P ++ [⟨.slice a0 n0 c0, .slice ax (n0 + 40) cx, n0⟩] : List Pk), p.n ≤ 1048576) := ⟨fun ax cx => by
          obtain ⟨q1, q2, q3, q4⟩ := HP.out
          refine ⟨by rw [List.length_append, q1]; rfl, by rw [← q2]; simp, fun x hx => q3 x (List.mem_cons_of_mem _ hx), fun p hp => ?_⟩
          rcases List.mem_append.1 hp with hp | hp
          · exact q4 p hp
          · rw [List.mem_singleton.1 hp]; exact HN0.out⟩
        obtain ⟨E, hE⟩ : ∃ E, boxA kb [.slice (some ⟨gL, 0, none⟩) A cL, .slice aG i cG, .slice aV C cV, .slice aX c cX] 62 :: rowV 27 1 (.slice (some ⟨gL, 0, none⟩) A cL) A XS :: rowV 27 1 (.slice aG i cG) i (P.map Pk.vo) :: rowV 52 1 (.slice aV C cV) C YS :: rowV 52 1 (.slice aX c cX) c (PV.map Pk.vo) :: (newX 33 5 csL N' (i + 1) ++ (rdsX 40 csL P 0 ++ (newX 29 16 csV NV c ++ (rdsX 2 csV PV 0 ++ l)))) = E := ⟨_, rfl⟩
        have HE := Keep.mk hE
        have HB2 : Keep (Sep w0 wr (lvK 33 5 o (csL i n0) (.slice a0 n0 c0) n0 (csL i n0) :: E)) := ⟨by rw [← hE]; exact S2⟩
        clear S1 S2 hE ho1 ho2 HB hlt hi hXi
        go_wp2_with fail
        as_aux_lemma =>
          go_loopw [4, 5] (fun u4 u5 wy => ∃ (j m : Nat) (ax : Option Addr) (cx : Nat), j ≤ 40 ∧ u5 = iv j ∧ u4 = .slice ax m cx ∧ Keep (m = n0 + j) ∧ Keep (Sep w0 wy (lvK 33 5 o (csL i n0) (.slice ax m cx) m (csL i m) :: E))) (fun _ u5 _ => (40 - intOf u5).toNat)
          case atStart => exact ⟨0, n0, a0, c0, by omega, rfl, rfl, ⟨rfl⟩, HB2⟩
          case round =>
            clear HB2
            obtain ⟨j, m, ax, cx, hj, rfl, rfl, HM, HB2⟩ := hrel
            by_cases hjt : j < 40
            · have hj1 : (j : Int) < 40 := by omega
              have hjw : IntKind.i64.wrap ((j : Int) + 1) = ((j + 1 : Nat) : Int) := by rw [IntKind.wrap_i64]; omega
              have hm1 : IntKind.i64.wrap (-1 - (i : Int)) = -1 - (i : Int) := by rw [IntKind.wrap_i64]; have := HIB.out; omega
              have HJ : Keep (j < 40) := ⟨hjt⟩
              obtain ⟨g9, c9, w9, ap, S9⟩ := Sep.lmApp i m m HB2.out rfl (by have := HM.out; have := HN0.out; omega)
              have AP := Keep.mk ap
              have HS9 := Keep.mk S9
              have HBS := Keep.mk (bsM (mkN i))
              have HBM := Keep.mk (builtM i)
              clear ap S9 hj hjt
              go_wp2_with (first
                | (with_reducible show wpList _ _ _ ({ dst := some 39, op := Op.build 33 _, type := _, pos := _, after := _, guard := _ } :: _) _ _
                   refine wpList_build rfl 33 _ rfl (snv (mkN i)).toArray ((congrArg (Tryz.prog.built 33) (by first | (simp only [List.map_toArray, List.map_cons, List.map_nil, Act.eval]; done) | (simp only [List.map_toArray, List.map_cons, List.map_nil, Act.eval]; with_reducible rfl) | (simp only [List.map_toArray, List.map_cons, List.map_nil, Act.eval]; rfl))).trans HBM.out) ?_
                   simp only [Act.put, List.setIfInBounds_toArray, List.set_cons_zero, List.set_cons_succ])
                | (with_reducible show wpList _ _ _ ({ dst := some 40, op := Op.buildSlice 27 _ _, type := _, pos := _, after := _, guard := _ } :: _) _ _
                   refine wpList_bs_run rfl (.tmp 39) 27 rfl _ rfl (HBS.out _) ?_)
                | (with_reducible show wpList _ _ _ ({ dst := some 41, op := Op.call { callee := Callee.builtin Builtin.append, args := _, argTypes := _ }, type := _, pos := _, after := _, guard := _ } :: _) _ _
                   refine wpList_append_run _ rfl (.tmp 36) (.tmp 40) 27 rfl _ _ rfl rfl AP.out ?_))
              go_roundw
              case rel => exact ⟨j + 1, m + 1, some ⟨g9, 0, none⟩, c9, HJ.out, rfl, rfl, ⟨by have := HM.out; omega⟩, HS9⟩
              case measure => simp [intOf]; have := HJ.out; omega
            · have hj1 : ¬ (j : Int) < 40 := by omega
              obtain rfl : j = 40 := by omega
              have hm40 := HM.out
              subst hm40
              have S3 := Sep.lwEnd (n := n0) ⟨a0, c0, rfl⟩ HO.out.1 HO.out.2 HB2.out
              rw [← HE.out] at S3
              obtain ⟨g9, c9, w9, ap, S9⟩ := Sep.appR ax (n0 + 40) cx (fr1 [_, _, _] S3) (by have := HIB.out; omega)
              have AP := Keep.mk ap
              have HBS := Keep.mk (bsR ax (n0 + 40) cx)
              have b1 := (S3.boxGet k1m).cellv 1 _ rfl
              have z1 := (S9.boxGet k2m).cellv 1 _ rfl
              have y1 := (S9.boxGet k2m).frozen 1
              have S10 := (fr1 [_, _] S9).boxPut 1 (sl g9 (i + 1) c9)
              obtain ⟨w10, hw10⟩ : ∃ w, w9.setCell ⟨kb, 1, none⟩ (sl g9 (i + 1) c9) = w := ⟨_, rfl⟩
              rw [hw10] at S10
              have HF : Keep (Sep w0 w10 (boxA kb [.slice (some ⟨gL, 0, none⟩) A cL, .slice (some ⟨g9, 0, none⟩) (i + 1) c9, .slice aV C cV, .slice aX c cX] 62 :: rowV 27 1 (.slice (some ⟨gL, 0, none⟩) A cL) A XS :: rowV 27 1 (.slice (some ⟨g9, 0, none⟩) (i + 1) c9) (i + 1) ((P ++ [⟨.slice a0 n0 c0, .slice ax (n0 + 40) cx, n0⟩] : List Pk).map Pk.vo) :: rowV 52 1 (.slice aV C cV) C YS :: rowV 52 1 (.slice aX c cX) c (PV.map Pk.vo) :: (newX 33 5 csL N' (i + 1) ++ (rdsX 40 csL (P ++ [⟨.slice a0 n0 c0, .slice ax (n0 + 40) cx, n0⟩] : List Pk) 0 ++ (newX 29 16 csV NV c ++ (rdsX 2 csV PV 0 ++ l)))))) := ⟨by
                rw [rdsX_app, List.map_append, Nat.zero_add, HP.out.1]
                exact pk3 S10⟩
              clear S3 S9 S10 ap hjt hj
              go_wp2_with (first
                | (with_reducible show wpList _ _ _ ({ dst := some 48, op := Op.buildSlice 59 _ _, type := _, pos := _, after := _, guard := _ } :: _) _ _
                   refine wpList_bs_run rfl (.tmp 47) 59 rfl _ rfl (HBS.out _) ?_)
                | (with_reducible show wpList _ _ _ ({ dst := some 49, op := Op.call { callee := Callee.builtin Builtin.append, args := _, argTypes := _ }, type := _, pos := _, after := _, guard := _ } :: _) _ _
                   refine wpList_append_run _ rfl (.tmp 46) (.tmp 48) 59 rfl _ _ rfl rfl AP.out ?_))
              go_roundw
              case rel => exact ⟨P ++ [⟨.slice a0 n0 c0, .slice ax (n0 + 40) cx, n0⟩], N', i + 1, some ⟨g9, 0, none⟩, c9, rfl, HIN.out, ⟨HP2.out ax cx⟩, HF⟩
              case measure => simp [intOf]; have := HIN.out; omega

    · have hi1 : ¬ (i : Int) < (A : Int) := by omega
      obtain rfl : i = A := by omega
      obtain rfl : Nn = [] := by
        have q := row_len HB.out k1m
        rw [← HP.out.2.1, List.length_append, List.length_map, HP.out.1, List.length_map] at q
        exact List.eq_nil_of_length_eq_zero (by omega)
      clear hlt hi
      have cb3 := (HB.out.boxGet k0m).cellv 3 _ rfl
      go_wp2_with fail
      clear cb0 cb3
      as_aux_lemma =>
        have HXS : Keep (P.map Pk.va = XS) := ⟨by have q := HP.out.2.1; rw [List.map_nil, List.append_nil] at q; exact q⟩
        replace HB : Keep (Sep w0 wr (boxA kb [.slice aL i cL, .slice aG i cG, .slice aV C cV, .slice aX c cX] 62 :: rowV 27 1 (.slice aL i cL) i XS :: rowV 27 1 (.slice aG i cG) i (P.map Pk.vo) :: rowV 52 1 (.slice aV C cV) C YS :: rowV 52 1 (.slice aX c cX) c (PV.map Pk.vo) :: (rdsX 40 csL P 0 ++ (newX 29 16 csV NV c ++ (rdsX 2 csV PV 0 ++ l))))) := HB
        go_loopw [6] (fun u6 wr => ∃ (PV : List Pk) (NV : List (Value × Nat)) (c : Nat) (aX : Option Addr) (cX : Nat), u6 = iv c ∧ c ≤ C ∧ Keep (PV.length = c ∧ PV.map Pk.va ++ NV.map (fun x => x.1) = YS ∧ (∀ x ∈ NV, x.2 ≤ 1048576) ∧ ∀ p ∈ PV, p.n ≤ 1048576) ∧ Keep (Sep w0 wr (boxA kb [.slice aL i cL, .slice aG i cG, .slice aV C cV, .slice aX c cX] 62 :: rowV 27 1 (.slice aL i cL) i XS :: rowV 27 1 (.slice aG i cG) i (P.map Pk.vo) :: rowV 52 1 (.slice aV C cV) C YS :: rowV 52 1 (.slice aX c cX) c (PV.map Pk.vo) :: (rdsX 40 csL P 0 ++ (newX 29 16 csV NV c ++ (rdsX 2 csV PV 0 ++ l)))))) (fun u6 _ => (C - intOf u6).toNat)
        case atStart => exact ⟨PV, NV, c, aX, cX, rfl, HIC.out, HPV, HB⟩
        case round =>
          clear HB HPV HIC
          obtain ⟨PV, NV, c, aX, cX, rfl, hc, HPV, HB⟩ := hrel
          have cb2 := (HB.out.boxGet k0m).cellv 2 _ rfl
          by_cases hlt : c < C
          · cases NV with
            | nil => exact absurd (row_len HB.out k3m) (by rw [← HPV.out.2.1, List.length_append, List.length_map, HPV.out.1, List.map_nil, List.length_nil]; omega)
            | cons x0 N' =>
              obtain ⟨v0, n0⟩ := x0
              have S1 := pk5 HB.out
              obtain ⟨a0, c0, e0⟩ := own_slice (S1.rowGet k0m)
              have e0 : v0 = .slice a0 n0 c0 := e0
              subst e0
              obtain ⟨gV, hgV⟩ := row_block HB.out k3m (by omega)
              subst hgV
              have HYI : Keep (YS[c]? = some (.slice a0 n0 c0)) := ⟨by
                rw [← HPV.out.2.1, List.getElem?_append_right (by rw [List.length_map, HPV.out.1]; exact Nat.le_refl _), List.length_map, HPV.out.1, Nat.sub_self]
                rfl⟩
              obtain ⟨o, S2, ho1, ho2⟩ := Sep.lwStart S1
              have HO : Keep ((o = none → n0 = 0) ∧ ∀ g, o = some g → ∃ c, Value.slice a0 n0 c0 = sl g n0 c) := ⟨⟨ho1, ho2⟩⟩
              have hi0 : (0 : Int) ≤ (c : Int) := by omega
              have hi1 : (c : Int) < (C : Int) := by omega
              have hit : ((c : Nat) : Int).toNat = c := by omega
              have HIN : Keep (c < C) := ⟨hlt⟩
              have HCB : Keep (c ≤ 1099511627776) := ⟨by have := HAC.out; omega⟩
              have hiw : IntKind.i64.wrap ((c : Int) + 1) = ((c + 1 : Nat) : Int) := by rw [IntKind.wrap_i64]; have := HCB.out; omega
              have hcu : IntKind.u64.wrap (c : Int) = (c : Int) := by rw [IntKind.wrap_u64]; have := HCB.out; omega
              have HN0 : Keep (n0 ≤ 1048576) := ⟨HPV.out.2.2.1 _ (List.mem_cons_self ..)⟩
              have HBV := Keep.mk (builtMV (c : Int))
              replace HB : Keep (Sep w0 wr (lvK 29 16 o (csV c n0) (.slice a0 n0 c0) n0 (csV c n0) :: boxA kb [.slice aL i cL, .slice aG i cG, .slice (some ⟨gV, 0, none⟩) C cV, .slice aX c cX] 62 :: rowV 52 1 (.slice (some ⟨gV, 0, none⟩) C cV) C YS :: rowV 52 1 (.slice aX c cX) c (PV.map Pk.vo) :: rowV 27 1 (.slice aL i cL) i XS :: rowV 27 1 (.slice aG i cG) i (P.map Pk.vo) :: (rdsX 40 csL P 0 ++ (newX 29 16 csV N' (c + 1) ++ (rdsX 2 csV PV 0 ++ l))))) := ⟨S2⟩
              clear S1 S2 ho1 ho2 hc
              go_wp2_with fail
              clear cb2
              refine region_Y (S := fun w' => Sep w0 w' [boxA kb [.slice aL i cL, .slice aG i cG, .slice (some ⟨gV, 0, none⟩) C cV, .slice aX c cX] 62, rowV 52 1 (.slice (some ⟨gV, 0, none⟩) C cV) C YS]) [24] (by kernel_rfl) ?_
              obtain ⟨W0, hW0⟩ : ∃ W_, wr.drew = W_ := ⟨_, rfl⟩
              replace HB := Keep.mk (HB.out.grown (gr_drew _ none))
              rw [hW0] at HB ⊢
              clear hW0
              have hHeld : (fun w' => Sep w0 w' [boxA kb [.slice aL i cL, .slice aG i cG, .slice (some ⟨gV, 0, none⟩) C cV, .slice aX c cX] 62, rowV 52 1 (.slice (some ⟨gV, 0, none⟩) C cV) C YS]) W0 := Sep.dropM (l := []) [_, _] _ (by simpa using HB.out.tail)
              refine wpAnyY_pure (i := 0) (oi := _) (v := ?_) rfl (by kernel_rfl) (by kernel_rfl) (by kernel_rfl) (by kernel_rfl) (fun _ _ _ h => h) (Or.inl ⟨by rfl, ?_⟩) ?_
              rotate_left
              · (intro w hSw; go_simp; first | done | (with_reducible rfl))
              simp only [Act.put, List.getElem_toArray, List.getElem_cons_zero, List.setIfInBounds_toArray, List.set_cons_zero, List.set_cons_succ]
              refine wpAnyY_pure (i := 1) (oi := _) (v := ?_) rfl (by kernel_rfl) (by kernel_rfl) (by kernel_rfl) (by kernel_rfl) (fun _ _ _ h => h) (Or.inl ⟨by rfl, ?_⟩) ?_
              rotate_left
              · (intro w hSw; go_simp; first | done | (with_reducible rfl))
              simp only [Act.put, List.getElem_toArray, List.getElem_cons_succ, List.getElem_cons_zero, List.setIfInBounds_toArray, List.set_cons_zero, List.set_cons_succ]
              refine wpAnyY_pure (i := 2) (oi := _) (v := ?_) rfl (by kernel_rfl) (by kernel_rfl) (by kernel_rfl) (by kernel_rfl) (fun _ _ _ h => h) (Or.inl ⟨by rfl, ?_⟩) ?_
              rotate_left
              · (intro w hSw; go_simp; first | done | (with_reducible rfl))
              simp only [Act.put, List.getElem_toArray, List.getElem_cons_succ, List.getElem_cons_zero, List.setIfInBounds_toArray, List.set_cons_zero, List.set_cons_succ]
              refine wpAnyY_pure (i := 3) (oi := _) (v := ?_) rfl (by kernel_rfl) (by kernel_rfl) (by kernel_rfl) (by kernel_rfl) (fun _ _ _ h => h) (Or.inl ⟨by rfl, ?_⟩) ?_
              rotate_left
              · (intro w hSw; go_simp; first | done | (with_reducible rfl))
              simp only [Act.put, List.getElem_toArray, List.getElem_cons_succ, List.getElem_cons_zero, List.setIfInBounds_toArray, List.set_cons_zero, List.set_cons_succ]
              refine wpAnyY_take (i := 4) (oi := _) (v := ?_) rfl (by kernel_rfl) (by kernel_rfl) (by kernel_rfl) (by kernel_rfl) (by kernel_rfl) (fun _ _ _ h => h) (Or.inl ⟨by rfl, ?_⟩) (by assumption) ?_
              rotate_left
              · (intro w hSw; have q := (hSw.boxGet k0m).cellv 3 _ rfl; go_simp; first | done | (with_reducible rfl))
              simp only [Act.put, List.getElem_toArray, List.getElem_cons_succ, List.getElem_cons_zero, List.setIfInBounds_toArray, List.set_cons_zero, List.set_cons_succ]
              refine wpAnyY_pure (i := 5) (oi := _) (v := ?_) rfl (by kernel_rfl) (by kernel_rfl) (by kernel_rfl) (by kernel_rfl) (fun _ _ _ h => h) (Or.inl ⟨by rfl, ?_⟩) ?_
              rotate_left
              · (intro w hSw; go_simp; first | done | (with_reducible rfl))
              simp only [Act.put, List.getElem_toArray, List.getElem_cons_succ, List.getElem_cons_zero, List.setIfInBounds_toArray, List.set_cons_zero, List.set_cons_succ]
              refine wpAnyY_pure (i := 6) (oi := _) (v := ?_) rfl (by kernel_rfl) (by kernel_rfl) (by kernel_rfl) (by kernel_rfl) (fun _ _ _ h => h) (Or.inl ⟨by rfl, ?_⟩) ?_
              rotate_left
              · (intro w hSw; go_simp; first | done | (with_reducible rfl))
              simp only [Act.put, List.getElem_toArray, List.getElem_cons_succ, List.getElem_cons_zero, List.setIfInBounds_toArray, List.set_cons_zero, List.set_cons_succ]
              refine wpAnyY_pure (i := 7) (oi := _) (v := ?_) rfl (by kernel_rfl) (by kernel_rfl) (by kernel_rfl) (by kernel_rfl) (fun _ _ _ h => h) (Or.inl ⟨by rfl, ?_⟩) ?_
              rotate_left
              · (intro w hSw; go_simp; first | done | (with_reducible rfl))
              simp only [Act.put, List.getElem_toArray, List.getElem_cons_succ, List.getElem_cons_zero, List.setIfInBounds_toArray, List.set_cons_zero, List.set_cons_succ]
              refine wpAnyY_take (i := 8) (oi := _) (v := ?_) rfl (by kernel_rfl) (by kernel_rfl) (by kernel_rfl) (by kernel_rfl) (by kernel_rfl) (fun _ _ _ h => h) (Or.inl ⟨by rfl, ?_⟩) (by assumption) ?_
              rotate_left
              · (intro w hSw; have q := (hSw.boxGet k0m).cellv 2 _ rfl; go_simp; first | done | (with_reducible rfl))
              simp only [Act.put, List.getElem_toArray, List.getElem_cons_succ, List.getElem_cons_zero, List.setIfInBounds_toArray, List.set_cons_zero, List.set_cons_succ]
              refine wpAnyY_pure (i := 9) (oi := _) (v := ?_) rfl (by kernel_rfl) (by kernel_rfl) (by kernel_rfl) (by kernel_rfl) (fun _ _ _ h => h) (Or.inl ⟨by rfl, ?_⟩) ?_
              rotate_left
              · (intro w hSw; go_simp; first | done | (with_reducible rfl))
              simp only [Act.put, List.getElem_toArray, List.getElem_cons_succ, List.getElem_cons_zero, List.setIfInBounds_toArray, List.set_cons_zero, List.set_cons_succ]
              refine wpAnyY_pure (i := 10) (oi := _) (v := ?_) rfl (by kernel_rfl) (by kernel_rfl) (by kernel_rfl) (by kernel_rfl) (fun _ _ _ h => h) (Or.inl ⟨by rfl, ?_⟩) ?_
              rotate_left
              · (intro w hSw; go_simp; first | done | (with_reducible rfl))
              simp only [Act.put, List.getElem_toArray, List.getElem_cons_succ, List.getElem_cons_zero, List.setIfInBounds_toArray, List.set_cons_zero, List.set_cons_succ]
              refine wpAnyY_take (i := 11) (oi := _) (v := ?_) rfl (by kernel_rfl) (by kernel_rfl) (by kernel_rfl) (by kernel_rfl) (by kernel_rfl) (fun _ _ _ h => h) (Or.inl ⟨by rfl, ?_⟩) (by assumption) ?_
              rotate_left
              · (intro w hSw; have q := (row_cell (k := c) (hSw.rowGet k1m) (by omega) HYI.out).1; go_simp; first | done | (with_reducible rfl))
              simp only [Act.put, List.getElem_toArray, List.getElem_cons_succ, List.getElem_cons_zero, List.setIfInBounds_toArray, List.set_cons_zero, List.set_cons_succ]
              refine wpAnyY_pure (i := 12) (oi := _) (v := ?_) rfl (by kernel_rfl) (by kernel_rfl) (by kernel_rfl) (by kernel_rfl) (fun _ _ _ h => h) (Or.inl ⟨by rfl, ?_⟩) ?_
              rotate_left
              · (intro w hSw; go_simp; first | done | (with_reducible rfl))
              simp only [Act.put, List.getElem_toArray, List.getElem_cons_succ, List.getElem_cons_zero, List.setIfInBounds_toArray, List.set_cons_zero, List.set_cons_succ]
              refine wpAnyY_pure (i := 13) (oi := _) (v := ?_) rfl (by kernel_rfl) (by kernel_rfl) (by kernel_rfl) (by kernel_rfl) (fun _ _ _ h => h) (Or.inl ⟨by rfl, ?_⟩) ?_
              rotate_left
              · (intro w hSw; go_simp; first | done | (with_reducible rfl))
              simp only [Act.put, List.getElem_toArray, List.getElem_cons_succ, List.getElem_cons_zero, List.setIfInBounds_toArray, List.set_cons_zero, List.set_cons_succ]
              refine wpAnyY_pure (i := 14) (oi := _) (v := .agg (v3E (mkV c)).toArray) rfl (by kernel_rfl) (by kernel_rfl) (by kernel_rfl) (by kernel_rfl) (fun _ _ _ h => h) (yieldsIf_build (by rfl) 29 _ rfl _ ?_) ?_
              · refine (congrArg (Tryz.prog.built 29) ?_).trans HBV.out
                simp only [List.map_toArray, List.map_cons, List.map_nil]
                rfl
              simp only [Act.put, List.getElem_toArray, List.getElem_cons_succ, List.getElem_cons_zero, List.setIfInBounds_toArray, List.set_cons_zero, List.set_cons_succ]
              refine wpAnyY_pure (i := 15) (oi := _) (v := ?_) rfl (by kernel_rfl) (by kernel_rfl) (by kernel_rfl) (by kernel_rfl) (fun _ _ _ h => h) (Or.inl ⟨by rfl, ?_⟩) ?_
              rotate_left
              · (intro w hSw; go_simp; first | done | (with_reducible rfl))
              simp only [Act.put, List.getElem_toArray, List.getElem_cons_succ, List.getElem_cons_zero, List.setIfInBounds_toArray, List.set_cons_zero, List.set_cons_succ]
              refine wpAnyY_pure (i := 16) (oi := _) (v := ?_) rfl (by kernel_rfl) (by kernel_rfl) (by kernel_rfl) (by kernel_rfl) (fun _ _ _ h => h) (Or.inl ⟨by rfl, ?_⟩) ?_
              rotate_left
              · (intro w hSw; go_simp; first | done | (with_reducible rfl))
              simp only [Act.put, List.getElem_toArray, List.getElem_cons_succ, List.getElem_cons_zero, List.setIfInBounds_toArray, List.set_cons_zero, List.set_cons_succ]
              refine wpAnyY_pure (i := 17) (oi := _) (v := .agg (v3E (mkV c)).toArray) rfl (by kernel_rfl) (by kernel_rfl) (by kernel_rfl) (by kernel_rfl) (fun _ _ _ h => h) (yieldsIf_build (by rfl) 29 _ rfl _ ?_) ?_
              · refine (congrArg (Tryz.prog.built 29) ?_).trans HBV.out
                simp only [List.map_toArray, List.map_cons, List.map_nil]
                rfl
              simp only [Act.put, List.getElem_toArray, List.getElem_cons_succ, List.getElem_cons_zero, List.setIfInBounds_toArray, List.set_cons_zero, List.set_cons_succ]
              refine wpAnyY_one (i := 18) (by kernel_rfl) rfl (fun K hK => ?_)
              have bs := bsMV c W0
              have g6 := gr_alloc W0 (.cells (v3E (mkV c) ++ v3E (mkV c)).toArray 29) none
              obtain ⟨g9, c9, w9, ap, S9⟩ := Sep.lvApp c n0 HB.out (by have := HN0.out; omega)
              have AP := Keep.mk ap
              have HS9 := Keep.mk S9
              clear ap S9
              obtain ⟨w6, hw6⟩ : ∃ w, W0.alloc (.cells (v3E (mkV c) ++ v3E (mkV c)).toArray 29) = w := ⟨_, rfl⟩
              obtain ⟨b6, hb6⟩ : ∃ b, W0.heap.size = b := ⟨_, rfl⟩
              rw [hw6, hb6] at bs AP
              rw [hw6] at g6
              rw [if_pos (show Region.wanted _ _ = true from rfl)]
              refine wp_bs2 52 2 (.tmp 80) (.tmp 83) rfl _ _ rfl rfl bs ?_
              refine hK.out _ _ (fun h => h.grown g6) ?_
              clear hK K hHeld bs hw6 hb6 HB g6
              simp only [Act.put, List.getElem_toArray, List.getElem_cons_succ, List.getElem_cons_zero, List.setIfInBounds_toArray, List.set_cons_zero, List.set_cons_succ]
              refine wpAnyY_one (i := 19) (by kernel_rfl) rfl (fun K hK => ?_)
              rw [if_pos (show Region.wanted _ _ = true from rfl)]
              refine wp_append_run (.tmp 77) (.tmp 84) 52 rfl _ _ rfl rfl AP.out ?_
              refine hK.out _ _ (fun _ => Sep.dropM (l := []) [_, _] _ (by simpa using HS9.out.tail)) ?_
              clear hK K AP
              simp only [Act.put, List.getElem_toArray, List.getElem_cons_succ, List.getElem_cons_zero, List.setIfInBounds_toArray, List.set_cons_zero, List.set_cons_succ]
              refine wpAnyY_one (i := 20) (by kernel_rfl) rfl (fun K hK => ?_)
              have bs := bsW (some ⟨g9, 0, none⟩) (n0 + 2) c9 w9
              have g6 := gr_alloc w9 (.cells #[.slice (some ⟨g9, 0, none⟩) (n0 + 2) c9] 52) none
              obtain ⟨g8, c8, w8, ap, S8⟩ := Sep.appW (some ⟨g9, 0, none⟩) (n0 + 2) c9 (fr1 [_, _, _] HS9.out) (by have := HCB.out; omega)
              have AP := Keep.mk ap
              have HS8 := Keep.mk S8
              have S9' := HS9.out.grown g6
              clear ap S8
              obtain ⟨w6, hw6⟩ : ∃ w, w9.alloc (.cells #[.slice (some ⟨g9, 0, none⟩) (n0 + 2) c9] 52) = w := ⟨_, rfl⟩
              obtain ⟨b6, hb6⟩ : ∃ b, w9.heap.size = b := ⟨_, rfl⟩
              rw [hw6, hb6] at bs AP
              rw [hw6] at g6
              clear S9'
              rw [if_pos (show Region.wanted _ _ = true from rfl)]
              refine wp_bs1 60 1 (.tmp 85) rfl _ rfl bs ?_
              refine hK.out _ _ (fun h => h.grown g6) ?_
              clear hK K bs hw6 hb6 g6 HS9
              simp only [Act.put, List.getElem_toArray, List.getElem_cons_succ, List.getElem_cons_zero, List.setIfInBounds_toArray, List.set_cons_zero, List.set_cons_succ]
              refine wpAnyY_one (i := 21) (by kernel_rfl) rfl (fun K hK => ?_)
              rw [if_pos (show Region.wanted _ _ = true from rfl)]
              refine wp_append_run (.tmp 70) (.tmp 86) 60 rfl _ _ rfl rfl AP.out ?_
              refine hK.out _ _ (fun _ => Sep.dropM (l := []) [_, _] _ (by simpa using HS8.out.tail.tail)) ?_
              clear hK K AP
              simp only [Act.put, List.getElem_toArray, List.getElem_cons_succ, List.getElem_cons_zero, List.setIfInBounds_toArray, List.set_cons_zero, List.set_cons_succ]
              refine wpAnyY_pure (i := 22) (oi := _) (v := ?_) rfl (by kernel_rfl) (by kernel_rfl) (by kernel_rfl) (by kernel_rfl) (fun _ _ _ h => h) (Or.inl ⟨by rfl, ?_⟩) ?_
              rotate_left
              · (intro w hSw; go_simp; first | done | (with_reducible rfl))
              simp only [Act.put, List.getElem_toArray, List.getElem_cons_succ, List.getElem_cons_zero, List.setIfInBounds_toArray, List.set_cons_zero, List.set_cons_succ]
              refine wpAnyY_pure (i := 23) (oi := _) (v := ?_) rfl (by kernel_rfl) (by kernel_rfl) (by kernel_rfl) (by kernel_rfl) (fun _ _ _ h => h) (Or.inl ⟨by rfl, ?_⟩) ?_
              rotate_left
              · (intro w hSw; go_simp; first | done | (with_reducible rfl))
              simp only [Act.put, List.getElem_toArray, List.getElem_cons_succ, List.getElem_cons_zero, List.setIfInBounds_toArray, List.set_cons_zero, List.set_cons_succ]
              refine wpAnyY_late (i := 24) (by kernel_rfl) rfl (by kernel_rfl) (fun K hK => ?_)
              have c4 := (HS8.out.boxGet k2m).cellv 3 _ rfl
              have y4 := (HS8.out.boxGet k2m).frozen 3
              have S10 := (fr1 [_, _] HS8.out).boxPut 3 (sl g8 (c + 1) c8)
              obtain ⟨w10, hw10⟩ : ∃ w, w8.setCell ⟨kb, 3, none⟩ (sl g8 (c + 1) c8) = w := ⟨_, rfl⟩
              rw [hw10] at S10
              go_simp
              refine hK.out _ _ ?_
              clear hK K
              have HF := Keep.mk S10
              clear S10 c4 y4 hw10 HS8
              refine wpAnyY_done (by kernel_rfl) ?_ _
              have HP2 : Keep ((PV ++ [⟨.slice a0 n0 c0, sl g9 (n0 + 2) c9, n0⟩] : List Pk).length = (c + 1) ∧ (PV ++ [⟨.slice a0 n0 c0, sl g9 (n0 + 2) c9, n0⟩] : List Pk).map Pk.va ++ N'.map (fun x => x.1) = YS ∧ (∀ x ∈ N', x.2 ≤ 1048576) ∧ ∀ p ∈ (PV ++ [⟨.slice a0 n0 c0, sl g9 (n0 + 2) c9, n0⟩] : List Pk), p.n ≤ 1048576) := ⟨by
                obtain ⟨q1, q2, q3, q4⟩ := HPV.out
                refine ⟨by rw [List.length_append, q1]; rfl, by rw [← q2]; simp, fun x hx => q3 x (List.mem_cons_of_mem _ hx), fun p hp => ?_⟩
                rcases List.mem_append.1 hp with hp | hp
                · exact q4 p hp
                · rw [List.mem_singleton.1 hp]; exact HN0.out⟩
              have HF2 : Keep (Sep w0 w10 (boxA kb [.slice aL i cL, .slice aG i cG, .slice (some ⟨gV, 0, none⟩) C cV, .slice (some ⟨g8, 0, none⟩) (c + 1) c8] 62 :: rowV 27 1 (.slice aL i cL) i XS :: rowV 27 1 (.slice aG i cG) i (P.map Pk.vo) :: rowV 52 1 (.slice (some ⟨gV, 0, none⟩) C cV) C YS :: rowV 52 1 (.slice (some ⟨g8, 0, none⟩) (c + 1) c8) (c + 1) ((PV ++ [⟨.slice a0 n0 c0, sl g9 (n0 + 2) c9, n0⟩] : List Pk).map Pk.vo) :: (rdsX 40 csL P 0 ++ (newX 29 16 csV N' (c + 1) ++ (rdsX 2 csV (PV ++ [⟨.slice a0 n0 c0, sl g9 (n0 + 2) c9, n0⟩] : List Pk) 0 ++ l))))) := ⟨by
                have q := Sep.lwEnd (n := n0) ⟨a0, c0, rfl⟩ HO.out.1 HO.out.2 (fr1 [_, _] HF.out)
                have q2 := pk4 (A := rdsX 40 csL P 0 ++ newX 29 16 csV N' (c + 1)) (B := rdsX 2 csV PV 0) (R := l) (by rw [List.append_assoc]; exact bk1 [_, _] q)
                rw [rdsX_app, List.map_append, Nat.zero_add, HPV.out.1]
                rw [List.append_assoc] at q2
                exact q2⟩
              clear HF
              go_wp2_with fail
              go_roundw
              case rel => exact ⟨PV ++ [⟨.slice a0 n0 c0, sl g9 (n0 + 2) c9, n0⟩], N', c + 1, some ⟨g8, 0, none⟩, c8, rfl, HIN.out, HP2, HF2⟩
              case measure => simp [intOf]; have := HIN.out; omega
          · have hi1 : ¬ (c : Int) < (C : Int) := by omega
            obtain rfl : c = C := by omega
            obtain rfl : NV = [] := by
              have q := row_len HB.out k3m
              rw [← HPV.out.2.1, List.length_append, List.length_map, HPV.out.1, List.length_map] at q
              exact List.eq_nil_of_length_eq_zero (by omega)
            have HYS : Keep (PV.map Pk.va = YS) := ⟨by have q := HPV.out.2.1; rw [List.map_nil, List.append_nil] at q; exact q⟩
            clear hlt hc
            go_wp2_with fail
            clear cb2
            as_aux_lemma =>
              go_loopw [7] (fun u7 wz => ∃ q : Nat, q ≤ i ∧ u7 = iv q ∧ Keep (Sep w0 wz (boxA kb [.slice aL i cL, .slice aG i cG, .slice aV c cV, .slice aX c cX] 62 :: rowV 27 1 (.slice aL i cL) i XS :: rowV 27 1 (.slice aG i cG) i (P.map Pk.vo) :: rowV 52 1 (.slice aV c cV) c YS :: rowV 52 1 (.slice aX c cX) c (PV.map Pk.vo) :: (rdsX 40 csL P 0 ++ (newX 29 16 csV [] c ++ (rdsX 2 csV PV 0 ++ l)))))) (fun u7 _ => (i - intOf u7).toNat)
              case atStart => exact ⟨0, Nat.zero_le _, rfl, HB⟩
              case round =>
                clear HB
                obtain ⟨q, hq, rfl, HB⟩ := hrel
                rename World => wz
                have cb0 := (HB.out.boxGet k0m).cellv 0 _ rfl
                have cb1 := (HB.out.boxGet k0m).cellv 1 _ rfl
                by_cases hlt : q < i
                · obtain ⟨p, hp⟩ : ∃ p, P[q]? = some p := ⟨_, List.getElem?_eq_getElem (by rw [HP.out.1]; exact hlt)⟩
                  obtain ⟨gV, rfl⟩ := row_block HB.out k1m (by omega)
                  obtain ⟨gX, rfl⟩ := row_block HB.out k2m (by omega)
                  have ca := (row_cell (k := q) (HB.out.rowGet k1m) (by omega) (by rw [← HXS.out, List.getElem?_map, hp]; rfl)).1
                  have cm := (row_cell (k := q) (HB.out.rowGet k2m) (by omega) (by rw [List.getElem?_map, hp]; rfl)).1
                  obtain ⟨rl, rm⟩ := HB.out.prGet (List.mem_cons_of_mem _ (List.mem_cons_of_mem _ (List.mem_cons_of_mem _ (List.mem_cons_of_mem _ (List.mem_cons_of_mem _ (List.mem_append_left _ (rdsX_mem 40 csL P 0 q p hp)))))))
                  rw [Nat.zero_add] at rl rm
                  have HPN : Keep (p.n ≤ 1048576) := ⟨HP.out.2.2.2 p (List.mem_of_getElem? hp)⟩
                  obtain ⟨va, vo, pn⟩ := p
                  simp only at rl rm ca cm HPN
                  obtain ⟨al, cl, rfl, rl⟩ := rl
                  obtain ⟨am, cm', rfl, rm⟩ := rm
                  obtain ⟨m40, hm40⟩ : ∃ m, pn + 40 = m := ⟨_, rfl⟩
                  rw [hm40] at rm cm
                  obtain ⟨gm, rfl, _, rm⟩ := rm (by omega)
                  have HRL := Keep.mk rl
                  have HRM := Keep.mk rm
                  have hwz : IntKind.i64.wrap (-1 - (q : Int)) = -1 - (q : Int) := by have := HAC.out; rw [IntKind.wrap_i64]; omega
                  have hq0 : (0 : Int) ≤ (q : Int) := by omega
                  have hq1 : (q : Int) < (i : Int) := by omega
                  have htq : ((q : Nat) : Int).toNat = q := by omega
                  have hqq : IntKind.i64.wrap ((q : Int) + 1) = ((q + 1 : Nat) : Int) := by have := HAC.out; rw [IntKind.wrap_i64]; omega
                  have HQ : Keep (q < i) := ⟨hlt⟩
                  have HM40 : Keep (pn + 40 = m40) := ⟨hm40⟩
                  clear hlt hq hp rl rm hm40
                  go_wp2_with fail
                  as_aux_lemma =>
                    go_loopw [8] (fun u8 wy => ∃ k : Nat, k ≤ m40 ∧ u8 = iv k ∧ wy = wz) (fun u8 _ => (m40 - intOf u8).toNat)
                    case atStart => exact ⟨0, Nat.zero_le _, rfl, rfl⟩
                    case round =>
                      obtain ⟨k, hk, rfl, rfl⟩ := hrel
                      by_cases hlt : k < m40
                      · have hk0 : (0 : Int) ≤ (k : Int) := by omega
                        have hk1 : (k : Int) < (m40 : Int) := by omega
                        have htk : ((k : Nat) : Int).toNat = k := by omega
                        have hwk : IntKind.i64.wrap ((k : Int) + 1) = ((k + 1 : Nat) : Int) := by have := HPN.out; have := HM40.out; rw [IntKind.wrap_i64]; omega
                        have cm2 := HRM.out (k * 5) _ (csL_get q m40 k hlt)
                        have HK : Keep (k < m40) := ⟨hlt⟩
                        clear hlt hk
                        by_cases hkn : k < pn
                        · obtain ⟨gl, rfl, _, rl⟩ := HRL.out (by omega)
                          have cl2 := rl (k * 5) _ (csL_get q pn k hkn)
                          have hkn0 : (k : Int) < (pn : Int) := by omega
                          have hkn1 : decide ((k : Int) < (pn : Int)) = true := decide_eq_true hkn0
                          have hkn2 : decide (k < pn) = true := decide_eq_true hkn
                          clear rl
                          go_wp2_with fail
                          go_roundw
                          case rel => exact ⟨k + 1, HK.out, rfl, by first | rfl | trivial⟩
                          case measure => simp [intOf]; have := HK.out; omega
                        · have hkn1 : decide ((k : Int) < (pn : Int)) = false := decide_eq_false (by omega)
                          have hkn2 : decide (k < pn) = false := decide_eq_false hkn
                          clear hkn
                          go_wp2_with fail
                          go_roundw
                          case rel => exact ⟨k + 1, HK.out, rfl, by first | rfl | trivial⟩
                          case measure => simp [intOf]; have := HK.out; omega
                      · have hk1 : ¬ (k : Int) < (m40 : Int) := by omega
                        go_wp2_with fail
                        go_roundw
                        case rel => exact ⟨q + 1, HQ.out, rfl, HB⟩
                        case measure => simp [intOf]; have := HQ.out; omega
                · have hq1 : ¬ (q : Int) < (i : Int) := by omega
                  clear hlt
                  go_wp2_with fail
                  clear cb0 cb1
                  as_aux_lemma =>
                    go_loopw [9] (fun u9 wz => ∃ q : Nat, q ≤ c ∧ u9 = iv q ∧ Keep (Sep w0 wz (boxA kb [.slice aL i cL, .slice aG i cG, .slice aV c cV, .slice aX c cX] 62 :: rowV 27 1 (.slice aL i cL) i XS :: rowV 27 1 (.slice aG i cG) i (P.map Pk.vo) :: rowV 52 1 (.slice aV c cV) c YS :: rowV 52 1 (.slice aX c cX) c (PV.map Pk.vo) :: (rdsX 40 csL P 0 ++ (newX 29 16 csV [] c ++ (rdsX 2 csV PV 0 ++ l)))))) (fun u9 _ => (c - intOf u9).toNat)
                    case atStart => exact ⟨0, Nat.zero_le _, rfl, HB⟩
                    case round =>
                      clear HB
                      obtain ⟨q, hq, rfl, HB⟩ := hrel
                      rename World => wz
                      have cb2 := (HB.out.boxGet k0m).cellv 2 _ rfl
                      have cb3 := (HB.out.boxGet k0m).cellv 3 _ rfl
                      by_cases hlt : q < c
                      · obtain ⟨p, hp⟩ : ∃ p, PV[q]? = some p := ⟨_, List.getElem?_eq_getElem (by rw [HPV.out.1]; exact hlt)⟩
                        obtain ⟨gV, rfl⟩ := row_block HB.out k3m (by omega)
                        obtain ⟨gX, rfl⟩ := row_block HB.out k4m (by omega)
                        have ca := (row_cell (k := q) (HB.out.rowGet k3m) (by omega) (by rw [← HYS.out, List.getElem?_map, hp]; rfl)).1
                        have cm := (row_cell (k := q) (HB.out.rowGet k4m) (by omega) (by rw [List.getElem?_map, hp]; rfl)).1
                        obtain ⟨rl, rm⟩ := HB.out.prGet (List.mem_cons_of_mem _ (List.mem_cons_of_mem _ (List.mem_cons_of_mem _ (List.mem_cons_of_mem _ (List.mem_cons_of_mem _ (List.mem_append_right _ (List.mem_append_right _ (List.mem_append_left _ (rdsX_mem 2 csV PV 0 q p hp)))))))))
                        rw [Nat.zero_add] at rl rm
                        have HPN : Keep (p.n ≤ 1048576) := ⟨HPV.out.2.2.2 p (List.mem_of_getElem? hp)⟩
                        obtain ⟨va, vo, pn⟩ := p
                        simp only at rl rm ca cm HPN
                        obtain ⟨al, cl, rfl, rl⟩ := rl
                        obtain ⟨am, cm', rfl, rm⟩ := rm
                        obtain ⟨m40, hm40⟩ : ∃ m, pn + 2 = m := ⟨_, rfl⟩
                        rw [hm40] at rm cm
                        obtain ⟨gm, rfl, _, rm⟩ := rm (by omega)
                        have HRL := Keep.mk rl
                        have HRM := Keep.mk rm
                        have hwz : IntKind.u64.wrap (q : Int) = (q : Int) := by have := HAC.out; rw [IntKind.wrap_u64]; omega
                        have hq0 : (0 : Int) ≤ (q : Int) := by omega
                        have hq1 : (q : Int) < (c : Int) := by omega
                        have htq : ((q : Nat) : Int).toNat = q := by omega
                        have hqq : IntKind.i64.wrap ((q : Int) + 1) = ((q + 1 : Nat) : Int) := by have := HAC.out; rw [IntKind.wrap_i64]; omega
                        have HQ : Keep (q < c) := ⟨hlt⟩
                        have HM40 : Keep (pn + 2 = m40) := ⟨hm40⟩
                        clear hlt hq hp rl rm hm40
                        go_wp2_with fail
                        as_aux_lemma =>
                          go_loopw [10] (fun u10 wy => ∃ k : Nat, k ≤ m40 ∧ u10 = iv k ∧ wy = wz) (fun u10 _ => (m40 - intOf u10).toNat)
                          case atStart => exact ⟨0, Nat.zero_le _, rfl, rfl⟩
                          case round =>
                            obtain ⟨k, hk, rfl, rfl⟩ := hrel
                            by_cases hlt : k < m40
                            · have hk0 : (0 : Int) ≤ (k : Int) := by omega
                              have hk1 : (k : Int) < (m40 : Int) := by omega
                              have htk : ((k : Nat) : Int).toNat = k := by omega
                              have hwk : IntKind.i64.wrap ((k : Int) + 1) = ((k + 1 : Nat) : Int) := by have := HPN.out; have := HM40.out; rw [IntKind.wrap_i64]; omega
                              have cm2 := HRM.out (k * 16) _ (csV_get q m40 k hlt)
                              have cm3 := HRM.out (k * 16 + 15) _ (csV_get15 q m40 k hlt)
                              have HK : Keep (k < m40) := ⟨hlt⟩
                              clear hlt hk
                              by_cases hkn : k < pn
                              · obtain ⟨gl, rfl, _, rl⟩ := HRL.out (by omega)
                                have cl2 := rl (k * 16) _ (csV_get q pn k hkn)
                                have hkn0 : (k : Int) < (pn : Int) := by omega
                                have hkn1 : decide ((k : Int) < (pn : Int)) = true := decide_eq_true hkn0
                                have hkn2 : decide (k < pn) = true := decide_eq_true hkn
                                clear rl
                                go_wp2_with fail
                                go_roundw
                                case rel => exact ⟨k + 1, HK.out, rfl, by first | rfl | trivial⟩
                                case measure => simp [intOf]; have := HK.out; omega
                              · have hkn1 : decide ((k : Int) < (pn : Int)) = false := decide_eq_false (by omega)
                                have hkn2 : decide (k < pn) = false := decide_eq_false hkn
                                clear hkn
                                go_wp2_with fail
                                go_roundw
                                case rel => exact ⟨k + 1, HK.out, rfl, by first | rfl | trivial⟩
                                case measure => simp [intOf]; have := HK.out; omega
                            · have hk1 : ¬ (k : Int) < (m40 : Int) := by omega
                              go_wp2_with fail
                              go_roundw
                              case rel => exact ⟨q + 1, HQ.out, rfl, HB⟩
                              case measure => simp [intOf]; have := HQ.out; omega
                      · have hq1 : ¬ (q : Int) < (c : Int) := by omega
                        clear hlt
                        go_wp2_with fail
                        go_ret
                        exact ⟨rfl, ⟨.slice aG i cG, .slice aX c cX, P, PV, HP.out.1, HXS.out, HP.out.2.2.2, HPV.out.1, HYS.out, HPV.out.2.2.2, HB.out⟩⟩

end Go.Proofs.YtgedlabmndlooaaGreat
