import Derived.Test.YtplcicbpkbamnaaGreatDoorX17
/- lobby: Sent, Accept. -/
namespace Go.Proofs.YtplcicbpkbamnaaGreatDoor.Lo
open Go Go.RowKit Go.Maps

set_option maxRecDepth 100000 in
theorem Sep.boxTurn {w0 W W' : World} {l : List As} {b : Nat} {cs ds : List Value} {t : TypeId} (h : Sep w0 W (boxA b cs t :: l)) (hh : Has W' b ds t) (g : W.grownBy W' (some b)) : Sep w0 W' (boxA b ds t :: l) := by
  obtain ⟨F, ⟨h1, rfl⟩, _, hu⟩ := h.use
  exact hu W' [_] (Fr.ofSome g rfl) (Loc.one (a := boxA _ _ _) _ ⟨hh, rfl⟩ (fun i hi => .inl hi))
def pre (s : Se) : List Value := lvc s ++ [iv (s.acc : Nat)] ++ s.key.map b8
set_option maxRecDepth 100000 in
theorem pre_len {s : Se} (h : s.key.length = 32) : (pre s).length = 40 := by simp [pre, lvc, h]
set_option maxRecDepth 100000 in
theorem sev_set {r u : Int} {s : Se} (h : s.key.length = 32) (j : Nat) (v : Value) : (sev r u s).set (40 + j) v = pre s ++ [uv s.wh, uv s.wb, iv r, iv u, iv s.y].set j v := by
  show (pre s ++ [uv s.wh, uv s.wb, iv r, iv u, iv s.y]).set (40 + j) v = _
  rw [List.set_append_right _ _ (by rw [pre_len h]; omega), pre_len h, show 40 + j - 40 = j by omega]
/-- one more is sent -/
def snt (s : Se) : Se := { s with sent := (s.sent + 1) % 18446744073709551616 }
def sntS (X : Lb) (k : Nat) : Value := ((fds X k).map fun s => Value.tuple #[uv (snt s).sent, iv 0]).getD (.tuple #[uv 0, iv 122])
def sntX (X : Lb) (k : Nat) : Lb := ((fds X k).map fun s => upd X k (snt s)).getD X
/-- a datagram is accepted -/
def acc (s : Se) (q : Nat) (cmd : Bool) (tick : Nat) : Se :=
  { s with y := if cmd then s.y - 16 else s.y, wh := Wi.mkH s.wh s.wb q, wb := Wi.mkB s.wh s.wb q, high := Wi.mkH s.wh s.wb q, heard := tick }
def accC (s : Se) (q : Nat) (cmd : Bool) : Int := if Wi.chk s.wh s.wb q ≠ 0 then (Wi.chk s.wh s.wb q : Nat) else if cmd = true ∧ s.y < 16 then 80 else 0
def accE (s : Se) (q : Nat) (cmd : Bool) (tick : Nat) : Se := if accC s q cmd = 0 then acc s q cmd tick else s
/-- marked, and told -/
theorem mark_go (w0 W : World) (b : Nat) (r u : Int) (s : Se) (hole : List As) (q : Nat) (hS : Sep w0 W (boxA b (sev r u s) 88 :: hole)) (hkl : s.key.length = 32) (h1 : s.wh < 18446744073709551616) (h2 : s.wb < 18446744073709551616) (hq : q < 18446744073709551616) :
    Calls Tryz.prog 59 #[.pointer (some ⟨b, 40, none⟩), uv q] W fun e W' => e = .returned (.int .i64 (Wi.chk s.wh s.wb q : Nat)) ∧ Sep w0 W' (boxA b (sev r u { s with wh := Wi.mkH s.wh s.wb q, wb := Wi.mkB s.wh s.wb q }) 88 :: hole) := by
  refine (Wi.omark_c b 40 (sev r u s) s.wh s.wb q W ⟨hS.boxGet k0m, sev_get hkl 0 _ rfl, sev_get hkl 1 _ rfl, h1, h2⟩ hq).mono ?_
  rintro e W' ⟨rfl, hh, g⟩
  refine ⟨rfl, hS.boxTurn ?_ g⟩
  have e1 : ((sev r u s).set 40 (uv (Wi.mkH s.wh s.wb q))).set (40 + 1) (uv (Wi.mkB s.wh s.wb q)) = sev r u { s with wh := Wi.mkH s.wh s.wb q, wb := Wi.mkB s.wh s.wb q } := by
    rw [show (40 : Nat) = 40 + 0 from rfl, sev_set hkl 0, show 40 + 0 + 1 = 40 + 1 from rfl, List.set_append_right _ _ (by rw [pre_len hkl]; omega), pre_len hkl]
    rfl
  rw [e1] at hh
  exact hh
set_option maxRecDepth 100000 in
theorem take_go (w0 W : World) (b : Nat) (r u : Int) (s : Se) (hole : List As) (hS : Sep w0 W (boxA b (sev r u s) 88 :: hole)) (hkl : s.key.length = 32) (hb : Bu.BK W b 42 (sev r u s) r u s.y) :
    Calls Tryz.prog 58 #[.pointer (some ⟨b, 42, none⟩)] W fun e W' => e = .returned (.int .i64 (Bu.tcode s.y)) ∧ Sep w0 W' (boxA b (sev r u { s with y := Bu.took s.y }) 88 :: hole) := by
  refine (Bu.take_c b 42 _ r u s.y W hb).mono ?_
  rintro e W' ⟨rfl, hh, g⟩
  refine ⟨rfl, hS.boxTurn ?_ g⟩
  have e1 : (sev r u s).set (42 + 2) (.int .i64 (Bu.took s.y)) = sev r u { s with y := Bu.took s.y } := by
    rw [show 42 + 2 = 40 + 4 from rfl, sev_set hkl 4]
    rfl
  rw [e1] at hh
  exact hh
end Go.Proofs.YtplcicbpkbamnaaGreatDoor.Lo

/- lobby: a session accepts; Accept. -/
namespace Go.Proofs.YtplcicbpkbamnaaGreatDoor.Lo
open Go Go.RowKit Go.Maps

set_option maxRecDepth 100000 in
set_option maxHeartbeats 16000000 in
theorem accept_c (w0 W : World) (b : Nat) (r u : Int) (s : Se) (hole : List As) (q tick : Nat) (cmd : Bool) (hS : Sep w0 W (boxA b (sev r u s) 88 :: hole)) (hkl : s.key.length = 32) (h1 : s.wh < 18446744073709551616) (h2 : s.wb < 18446744073709551616) (hq : q < 18446744073709551616)
    (hb : ∀ W', Has W' b (sev r u s) 88 → Bu.BK W' b 42 (sev r u s) r u s.y) :
    Calls Tryz.prog 39 #[pt b, uv q, .bool cmd, uv tick] W fun e W' => e = .returned (iv (accC s q cmd)) ∧ Sep w0 W' (boxA b (sev r u (accE s q cmd tick)) 88 :: hole) := by
  have d0 : W.cell? ⟨b, 40, none⟩ = some (uv s.wh) := (hS.boxGet k0m).cellv 40 _ (sev_get hkl 0 _ rfl)
  have d1 : W.cell? ⟨b, 41, none⟩ = some (uv s.wb) := (hS.boxGet k0m).cellv 41 _ (sev_get hkl 1 _ rfl)
  have hT := Wi.check_c s.wh s.wb q W h1 h2 hq
  have HS := Keep.mk hS
  have HH := Keep.mk (And.intro h1 (And.intro h2 (And.intro hq hb)))
  clear hS h1 h2 hq hb
  by_cases hc : Wi.chk s.wh s.wb q = 0
  · rw [hc] at hT
    cases cmd with
    | false =>
      have HE : Keep (accC s q false = 0 ∧ accE s q false tick = acc s q false tick) := by
        have e : accC s q false = 0 := by simp [accC, hc]
        exact ⟨e, by unfold accE; rw [if_pos e]⟩
      go_enter Tryz.func39, Tryz.ntmps39
      go_wp2_with fail
      refine hT.mono ?_
      rintro e w1 ⟨rfl, g1⟩
      have hM := mark_go w0 w1 b r u s hole q (HS.out.grown g1) hkl HH.out.1 HH.out.2.1 HH.out.2.2.1
      clear hT g1 HS d0 d1 hc
      go_wp2_with fail
      refine hM.mono ?_
      rintro e w3 ⟨rfl, S3⟩
      obtain ⟨H, hH⟩ : ∃ H, Wi.mkH s.wh s.wb q = H := ⟨_, rfl⟩
      obtain ⟨B, hB⟩ : ∃ B, Wi.mkB s.wh s.wb q = B := ⟨_, rfl⟩
      simp only [hH, hB] at S3
      have HS3 := Keep.mk S3
      have d0 : w3.cell? ⟨b, 40, none⟩ = some (uv H) := (S3.boxGet k0m).cellv 40 _ (sev_get (s := { s with wh := H, wb := B }) hkl 0 _ rfl)
      have d1 : w3.cell? ⟨b, 41, none⟩ = some (uv B) := (S3.boxGet k0m).cellv 41 _ (sev_get (s := { s with wh := H, wb := B }) hkl 1 _ rfl)
      have hHi := Wi.high_c H B w3
      have HE2 : Keep (accE s q false tick = { s with wh := H, wb := B, high := H, heard := tick } ∧ accC s q false = 0) := ⟨by rw [← hH, ← hB]; exact ⟨HE.out.2, HE.out.1⟩⟩
      clear hM S3 hH hB HE
      go_wp2_with fail
      refine hHi.mono ?_
      rintro e w4 ⟨rfl, g4⟩
      have S4 := HS3.out.grown g4
      have f5 : w4.frozen? ⟨b, 5, none⟩ = false := (S4.boxGet k0m).frozen 5
      have d5 : w4.cell? ⟨b, 5, none⟩ = some (uv s.high) := (S4.boxGet k0m).cellv 5 _ rfl
      have S5 := S4.boxPut 5 (uv H)
      obtain ⟨W5, hW5⟩ : ∃ W5, w4.setCell ⟨b, 5, none⟩ (uv H) = W5 := ⟨_, rfl⟩
      rw [hW5] at S5
      have f4 : W5.frozen? ⟨b, 4, none⟩ = false := (S5.boxGet k0m).frozen 4
      have d4 : W5.cell? ⟨b, 4, none⟩ = some (uv s.heard) := (S5.boxGet k0m).cellv 4 _ rfl
      have S6 := S5.boxPut 4 (uv tick)
      have HF : Keep (Sep w0 (W5.setCell ⟨b, 4, none⟩ (uv tick)) (boxA b (sev r u { s with wh := H, wb := B, high := H, heard := tick }) 88 :: hole)) := ⟨S6⟩
      clear HS3 S4 S5 S6 hHi g4 d0 d1
      go_wp2_with fail
      go_ret
      rw [HE2.out.1, HE2.out.2]
      exact ⟨rfl, HF.out⟩
    | true =>
      go_enter Tryz.func39, Tryz.ntmps39
      go_wp2_with fail
      refine hT.mono ?_
      rintro e w1 ⟨rfl, g1⟩
      have S1 := HS.out.grown g1
      have hK := take_go w0 w1 b r u s hole S1 hkl (HH.out.2.2.2 w1 (S1.boxGet k0m))
      clear hT g1 HS d0 d1 S1
      by_cases hy : s.y < 16
      · have HE : Keep (accC s q true = 80 ∧ accE s q true tick = s) := by
          have e : accC s q true = 80 := by simp [accC, hc, hy]
          exact ⟨e, by unfold accE; rw [if_neg (by rw [e]; decide)]⟩
        have et : Bu.tcode s.y = 80 := by simp [Bu.tcode, hy]
        have ek : Bu.took s.y = s.y := by simp [Bu.took, hy]
        rw [et, ek] at hK
        clear hc hy et ek
        go_wp2_with fail
        refine hK.mono ?_
        rintro e w2 ⟨rfl, S2⟩
        have HF := Keep.mk S2
        clear hK S2
        go_wp2_with fail
        go_ret
        rw [HE.out.1, HE.out.2]
        exact ⟨rfl, HF.out⟩
      · have HE : Keep (accC s q true = 0 ∧ accE s q true tick = acc s q true tick) := by
          have e : accC s q true = 0 := by simp [accC, hc, hy]
          exact ⟨e, by unfold accE; rw [if_pos e]⟩
        have et : Bu.tcode s.y = 0 := by simp [Bu.tcode, hy]
        have ek : Bu.took s.y = s.y - 16 := by simp [Bu.took, hy]
        rw [et, ek] at hK
        clear hc hy et ek
        go_wp2_with fail
        refine hK.mono ?_
        rintro e w2 ⟨rfl, S2⟩
        have hM := mark_go w0 w2 b r u { s with y := s.y - 16 } hole q S2 hkl HH.out.1 HH.out.2.1 HH.out.2.2.1
        clear hK S2
        go_wp2_with fail
        refine hM.mono ?_
        rintro e w3 ⟨rfl, S3⟩
        obtain ⟨H, hH⟩ : ∃ H, Wi.mkH s.wh s.wb q = H := ⟨_, rfl⟩
        obtain ⟨B, hB⟩ : ∃ B, Wi.mkB s.wh s.wb q = B := ⟨_, rfl⟩
        simp only [hH, hB] at S3
        have HS3 := Keep.mk S3
        have d0 : w3.cell? ⟨b, 40, none⟩ = some (uv H) := (S3.boxGet k0m).cellv 40 _ (sev_get (s := { s with y := s.y - 16, wh := H, wb := B }) hkl 0 _ rfl)
        have d1 : w3.cell? ⟨b, 41, none⟩ = some (uv B) := (S3.boxGet k0m).cellv 41 _ (sev_get (s := { s with y := s.y - 16, wh := H, wb := B }) hkl 1 _ rfl)
        have hHi := Wi.high_c H B w3
        have HE2 : Keep (accE s q true tick = { s with y := s.y - 16, wh := H, wb := B, high := H, heard := tick } ∧ accC s q true = 0) := ⟨by rw [← hH, ← hB]; exact ⟨HE.out.2, HE.out.1⟩⟩
        clear hM S3 hH hB HE
        go_wp2_with fail
        refine hHi.mono ?_
        rintro e w4 ⟨rfl, g4⟩
        have S4 := HS3.out.grown g4
        have f5 : w4.frozen? ⟨b, 5, none⟩ = false := (S4.boxGet k0m).frozen 5
        have d5 : w4.cell? ⟨b, 5, none⟩ = some (uv s.high) := (S4.boxGet k0m).cellv 5 _ rfl
        have S5 := S4.boxPut 5 (uv H)
        obtain ⟨W5, hW5⟩ : ∃ W5, w4.setCell ⟨b, 5, none⟩ (uv H) = W5 := ⟨_, rfl⟩
        rw [hW5] at S5
        have f4 : W5.frozen? ⟨b, 4, none⟩ = false := (S5.boxGet k0m).frozen 4
        have d4 : W5.cell? ⟨b, 4, none⟩ = some (uv s.heard) := (S5.boxGet k0m).cellv 4 _ rfl
        have S6 := S5.boxPut 4 (uv tick)
        have HF : Keep (Sep w0 (W5.setCell ⟨b, 4, none⟩ (uv tick)) (boxA b (sev r u { s with y := s.y - 16, wh := H, wb := B, high := H, heard := tick }) 88 :: hole)) := ⟨S6⟩
        clear HS3 S4 S5 S6 hHi g4 d0 d1
        go_wp2_with fail
        go_ret
        rw [HE2.out.1, HE2.out.2]
        exact ⟨rfl, HF.out⟩
  · have HE : Keep (accC s q cmd = ((Wi.chk s.wh s.wb q : Nat) : Int) ∧ accE s q cmd tick = s) := by
      have e : accC s q cmd = ((Wi.chk s.wh s.wb q : Nat) : Int) := by unfold accC; rw [if_pos hc]
      exact ⟨e, by unfold accE; rw [if_neg (by rw [e]; omega)]⟩
    generalize Wi.chk s.wh s.wb q = z at *
    have hz : ¬ (z : Int) = 0 := by omega
    clear hc
    go_enter Tryz.func39, Tryz.ntmps39
    go_wp2_with fail
    refine hT.mono ?_
    rintro e w1 ⟨rfl, g1⟩
    have HF := Keep.mk (HS.out.grown g1)
    clear hT g1 HS d0 d1
    go_wp2_with fail
    go_ret
    rw [HE.out.1, HE.out.2]
    exact ⟨rfl, HF.out⟩
def acpS (X : Lb) (k q : Nat) (cmd : Bool) : Int := ((fds X k).map fun s => accC s q cmd).getD 122
def acpX (X : Lb) (k q : Nat) (cmd : Bool) (tick : Nat) : Lb := ((fds X k).map fun s => upd X k (accE s q cmd tick)).getD X
set_option maxRecDepth 100000 in
set_option maxHeartbeats 8000000 in
theorem acp_c (w0 W : World) (l : List As) (lb : Nat) (X : Lb) (k q tick : Nat) (cmd : Bool) (h : Sep w0 W (lobA lb X :: l)) (ok : LbOk X) (hk : k < 18446744073709551616) (hq : q < 18446744073709551616) :
    Calls Tryz.prog 16 #[pt lb, uv k, uv q, .bool cmd, uv tick] W fun e W' => e = .returned (iv (acpS X k q cmd)) ∧ Sep w0 W' (lobA lb (acpX X k q cmd tick) :: l) := by
  obtain ⟨mb, c7, hc⟩ := lob_at h ok k hk
  rcases hc with ⟨hf, hlk⟩ | ⟨b, s, hole, hf, hm, hn, hlk, hS, hB⟩
  · have HR : Keep (acpS X k q cmd = 122 ∧ acpX X k q cmd tick = X) := ⟨by unfold acpS; rw [hf]; rfl, by unfold acpX; rw [hf]; rfl⟩
    have HF := Keep.mk h
    clear h hf ok
    go_enter Tryz.func16, Tryz.ntmps16
    go_wp2_with fail
    go_ret
    rw [HR.out.1, HR.out.2]
    exact ⟨rfl, HF.out⟩
  · have HR : Keep (acpS X k q cmd = accC s q cmd ∧ acpX X k q cmd tick = upd X k (accE s q cmd tick)) := ⟨by unfold acpS; rw [hf]; rfl, by unfold acpX; rw [hf]; rfl⟩
    obtain ⟨_, _, _, hkl, _, _, _, _, h1, h2, _⟩ := ok.s s hm
    have hA := accept_c w0 W b X.r X.u s hole q tick cmd hS hkl h1 h2 hq (fun W' hh => bko ok hm rfl rfl hh)
    have hnum : (accE s q cmd tick).num = k := by unfold accE; split <;> exact hn
    have HB : Keep (∀ W', Sep w0 W' (boxA b (sev X.r X.u (accE s q cmd tick)) 88 :: hole) → Sep w0 W' (lobA lb (upd X k (accE s q cmd tick)) :: l)) := ⟨fun W' hh => hB W' _ hnum hh⟩
    clear h hf ok hm hS hB hkl h1 h2 hnum hn
    go_enter Tryz.func16, Tryz.ntmps16
    go_wp2_with fail
    refine hA.mono ?_
    rintro e w1 ⟨rfl, S1⟩
    have HF := Keep.mk (HB.out w1 S1)
    clear hA S1 HB
    go_wp2_with fail
    go_ret
    rw [HR.out.1, HR.out.2]
    exact ⟨rfl, HF.out⟩
end Go.Proofs.YtplcicbpkbamnaaGreatDoor.Lo

/- lobby: what is told of a session: copyLive, tell. -/
namespace Go.Proofs.YtplcicbpkbamnaaGreatDoor.Lo
open Go Go.RowKit Go.Maps

/-- a value of many cells is laid over a block -/
theorem store_box {ops : Array Oper} {rest : List Oper} {op : Oper} {a : Act} {Q : Exit → Act → World → Prop} (w3 : World) (rb : Nat) (ds cs : List Value) (T : TypeId) (hgd : op.guard = none) {x y : Operand} (ho : op.op = .store T x y)
    (hx : a.eval x = .pointer (some ⟨rb, 0, none⟩)) (hy : a.eval y = .agg cs.toArray) (hh : Has w3 rb ds T) (hl : cs.length = ds.length) (hi : (Tryz.prog.info? T).map (·.size) = some cs.length) (h1 : ∀ v ∈ cs, v.oneCell' = true)
    (h : ∀ w6, (∀ w0 l, Sep w0 w3 (boxA rb ds T :: l) → Sep w0 w6 (boxA rb cs T :: l)) → w3.grownBy w6 (some rb) → wpList Tryz.prog ops Q rest (a.put op.dst undef) w6) : wpList Tryz.prog ops Q (op :: rest) a w3 := by
  have hg : w3.grownBy (w3.setCells rb 0 cs.toArray.toList) (some rb) := gr_sets _ _ _ _
  refine wpList_store_mid hgd T x y ho rb 0 cs.toArray hx hy (hh.there 0 cs.toArray.size (by rw [List.size_toArray]; omega)) (by rw [List.size_toArray]; exact hi) (all_oneCell_toArray h1) ?_
  exact h _ (fun w0 l hS => hS.boxTurn (hh.setAll cs hl) hg) hg
set_option maxRecDepth 100000 in
theorem results_c {fn : Func} {p : Tmp} {ty : TypeId} (h : fn.results = #[.cell p ty]) (tmps : Array Value) (P : Program) (w : World) :
    (results fn tmps).run P w = ((asAddr (tmps.getD p undef)).run P w).andThen fun a w₁ => (loadVar ty a).run P w₁ := by
  simp only [results, h]
  simp [Sem.run_bind, Result.andThen]
set_option maxRecDepth 100000 in
theorem ret_c {P : Program} {fn : Func} {R : Ending → World → Prop} {a : Act} {w : World} {p : Tmp} {ty t : TypeId} {b : Nat} {cs : List Value} {d : TypeDesc}
    (hr : fn.results = #[.cell p ty]) (hp : a.tmps.getD p undef = .pointer (some ⟨b, 0, none⟩)) (hh : Has w b cs t) (hu : P.underlying ty = some d) (hd : d.isRow = true)
    (hi : (P.info? ty).map (·.size) = some cs.length) (hdf : a.defers = []) (h : R (.returned (.agg cs.toArray)) w) : bodyPost P fn R .ret a w := by
  refine bodyPost_ret (v := .agg cs.toArray) ?_ hdf h
  rw [results_c hr, hp]
  simp [asAddr, Result.andThen, run_loadVar_mid w b 0 ty cs d hh.range hu hd hi]
set_option maxRecDepth 100000 in
theorem under42 : ∃ d, Tryz.prog.underlying 44 = some d ∧ d.isRow = true := ⟨_, Tryz.underlying44, rfl⟩
set_option maxRecDepth 100000 in
theorem info42 : (Tryz.prog.info? 44).map (·.size) = some 7 := by kernel_rfl
def z7 : List Value := [.int .u64 0, .int .i64 0, .string ⟨#[]⟩, .string ⟨#[]⟩, .int .u64 0, .int .u64 0, .int .u64 0]
set_option maxRecDepth 100000 in
theorem lvc_one (s : Se) : ∀ v ∈ lvc s, v.oneCell' = true := by
  intro v hv
  simp only [lvc, List.mem_cons, List.not_mem_nil, or_false] at hv
  rcases hv with rfl | rfl | rfl | rfl | rfl | rfl | rfl <;> rfl
set_option maxRecDepth 100000 in
set_option maxHeartbeats 16000000 in
theorem live_c (w : World) (s : Se) (hn : s.nm.size ≤ 281474976710656) (hf : s.fr.size ≤ 281474976710656) :
    Calls Tryz.prog 29 #[.agg (lvc s).toArray] w fun e w' => e = .returned (.agg (lvc s).toArray) ∧ w.grownBy w' none := by
  obtain ⟨du, hdu, hdr⟩ := under42
  have S2 := ((Sep.nil w).newBox (lvc s).toArray 44).newBox z7.toArray 44
  obtain ⟨W1, hW1⟩ : ∃ W1, w.alloc (.cells (lvc s).toArray 44) = W1 := ⟨_, rfl⟩
  obtain ⟨xb, hxb⟩ : ∃ xb, w.heap.size = xb := ⟨_, rfl⟩
  rw [hW1, hxb] at S2
  obtain ⟨W2, hW2⟩ : ∃ W2, W1.alloc (.cells z7.toArray 44) = W2 := ⟨_, rfl⟩
  obtain ⟨rb, hrb⟩ : ∃ rb, W1.heap.size = rb := ⟨_, rfl⟩
  rw [hW2, hrb] at S2
  change Sep w W2 [boxA rb z7 44, boxA xb (lvc s) 44] at S2
  have HS2 := Keep.mk S2
  have HNF := Keep.mk (And.intro hn hf)
  have HL1 := Keep.mk (lvc_one s)
  have HL7 : Keep ((lvc s).length = 7) := ⟨rfl⟩
  have HLv : Keep ((lvc s)[2]? = some (.string s.nm) ∧ (lvc s)[3]? = some (.string s.fr) ∧ (lvc s).set 2 (.string s.nm) = lvc s ∧ (lvc s).set 3 (.string s.fr) = lvc s) := ⟨rfl, rfl, rfl, rfl⟩
  obtain ⟨lv, hlv⟩ : ∃ lv, lvc s = lv := ⟨_, rfl⟩
  have hsz : lv.toArray.size = 7 := by rw [← hlv]; rfl
  rw [hlv] at HS2 HL1 HL7 HLv hW1 ⊢
  unfold z7 at hW2
  clear S2 hn hf hlv
  go_enter Tryz.func29, Tryz.ntmps29
  go_wp2_with fail
  have SD := HS2.out.grown (gr_drew W2 none)
  refine wp_region_held_drew (S := fun w => w.cell? ⟨xb, 2, none⟩ = some (.string s.nm) ∧ w.cell? ⟨xb, 3, none⟩ = some (.string s.fr)) (by kernel_rfl) ⟨(SD.boxGet k1m).cellv 2 _ HLv.out.1, (SD.boxGet k1m).cellv 3 _ HLv.out.2.1⟩ (fun hHeld => ?_)
  generalize W2.drew = w2 at SD hHeld ⊢
  clear HS2 hW1 hW2 hxb hrb
  refine wpAnyH_take (i := 0) (oi := _) (v := ?_) rfl (by kernel_rfl) (by kernel_rfl) (by kernel_rfl) (fun _ _ _ h => h) (Or.inl ⟨by rfl, ?_⟩) (by assumption) ?_
  rotate_left
  · (intro w hSw; go_simp; first | done | (with_reducible rfl))
  simp only [Act.put, List.getElem_toArray, List.getElem_cons_zero, List.setIfInBounds_toArray, List.set_cons_zero, List.set_cons_succ]
  refine wpAnyH_take (i := 1) (oi := _) (v := ?_) rfl (by kernel_rfl) (by kernel_rfl) (by kernel_rfl) (fun _ _ _ h => h) (Or.inl ⟨by rfl, ?_⟩) (by assumption) ?_
  rotate_left
  · (intro w hSw; obtain ⟨y1, y2⟩ := hSw; go_simp; first | done | (with_reducible rfl))
  simp only [Act.put, List.getElem_toArray, List.getElem_cons_succ, List.getElem_cons_zero, List.setIfInBounds_toArray, List.set_cons_zero, List.set_cons_succ]
  refine wpAnyH_take (i := 3) (oi := _) (v := ?_) rfl (by kernel_rfl) (by kernel_rfl) (by kernel_rfl) (fun _ _ _ h => h) (Or.inl ⟨by rfl, ?_⟩) (by assumption) ?_
  rotate_left
  · (intro w hSw; go_simp; first | done | (with_reducible rfl))
  simp only [Act.put, List.getElem_toArray, List.getElem_cons_succ, List.getElem_cons_zero, List.setIfInBounds_toArray, List.set_cons_zero, List.set_cons_succ]
  refine wpAnyH_take (i := 4) (oi := _) (v := ?_) rfl (by kernel_rfl) (by kernel_rfl) (by kernel_rfl) (fun _ _ _ h => h) (Or.inl ⟨by rfl, ?_⟩) (by assumption) ?_
  rotate_left
  · (intro w hSw; obtain ⟨y1, y2⟩ := hSw; go_simp; first | done | (with_reducible rfl))
  simp only [Act.put, List.getElem_toArray, List.getElem_cons_succ, List.getElem_cons_zero, List.setIfInBounds_toArray, List.set_cons_zero, List.set_cons_succ]
  refine wpAnyH_ready (rs := [2]) (by kernel_rfl) (by simp) ?_
  refine AllReadyH.cons rfl (fun K hK => ?_) AllReadyH.nil
  have hC := Na.clone_c s.nm w2 HNF.out.1
  go_simp
  go_wp2_with fail
  refine hC.mono ?_
  rintro e w3 ⟨rfl, g3⟩
  have S3 := SD.grown g3
  clear hC g3 SD
  refine hK.out _ _ ⟨(S3.boxGet k1m).cellv 2 _ HLv.out.1, (S3.boxGet k1m).cellv 3 _ HLv.out.2.1⟩ (fun hHeld => ?_)
  clear hK K
  refine wpAnyH_take (i := 6) (oi := _) (v := ?_) rfl (by kernel_rfl) (by kernel_rfl) (by kernel_rfl) (fun _ _ _ h => h) (Or.inl ⟨by rfl, ?_⟩) (by assumption) ?_
  rotate_left
  · (intro w hSw; go_simp; first | done | (with_reducible rfl))
  simp only [Act.put, List.getElem_toArray, List.getElem_cons_succ, List.getElem_cons_zero, List.setIfInBounds_toArray, List.set_cons_zero, List.set_cons_succ]
  refine wpAnyH_ready (rs := [5]) (by kernel_rfl) (by simp) ?_
  refine AllReadyH.cons rfl (fun K hK => ?_) AllReadyH.nil
  have hC := Na.clone_c s.fr w3 HNF.out.2
  go_simp
  go_wp2_with fail
  refine hC.mono ?_
  rintro e w4 ⟨rfl, g4⟩
  have S4 := S3.grown g4
  clear hC g4 S3
  refine hK.out _ _ ⟨(S4.boxGet k1m).cellv 2 _ HLv.out.1, (S4.boxGet k1m).cellv 3 _ HLv.out.2.1⟩ (fun hHeld => ?_)
  clear hK K
  refine wpAnyH_ready (rs := [7]) (by kernel_rfl) (by simp) ?_
  refine AllReadyH.cons rfl (fun K hK => ?_) AllReadyH.nil
  have f2 : w4.frozen? ⟨xb, 2, none⟩ = false := (S4.boxGet k1m).frozen 2
  have y2 : w4.cell? ⟨xb, 2, none⟩ = some (.string s.nm) := (S4.boxGet k1m).cellv 2 _ HLv.out.1
  have S5 := S4.swap.boxPut 2 (.string s.nm)
  rw [HLv.out.2.2.1] at S5
  have HS5 := Keep.mk S5
  clear S4 S5
  go_simp
  go_wp2_with fail
  refine hK.out _ _ ⟨(HS5.out.boxGet k0m).cellv 2 _ HLv.out.1, (HS5.out.boxGet k0m).cellv 3 _ HLv.out.2.1⟩ (fun hHeld => ?_)
  clear hK K f2 y2
  generalize World.setCell w4 _ _ = w5 at HS5 hHeld ⊢
  refine wpAnyH_take (i := 8) (oi := _) (v := ?_) rfl (by kernel_rfl) (by kernel_rfl) (by kernel_rfl) (fun _ _ _ h => h) (Or.inl ⟨by rfl, ?_⟩) (by assumption) ?_
  rotate_left
  · (intro w hSw; go_simp; first | done | (with_reducible rfl))
  simp only [Act.put, List.getElem_toArray, List.getElem_cons_succ, List.getElem_cons_zero, List.setIfInBounds_toArray, List.set_cons_zero, List.set_cons_succ]
  refine wpAnyH_ready (rs := [9]) (by kernel_rfl) (by simp) ?_
  refine AllReadyH.cons rfl (fun K hK => ?_) AllReadyH.nil
  have f3 : w5.frozen? ⟨xb, 3, none⟩ = false := (HS5.out.boxGet k0m).frozen 3
  have y3 : w5.cell? ⟨xb, 3, none⟩ = some (.string s.fr) := (HS5.out.boxGet k0m).cellv 3 _ HLv.out.2.1
  have S6 := HS5.out.boxPut 3 (.string s.fr)
  rw [HLv.out.2.2.2] at S6
  have HS6 := Keep.mk S6
  clear S6
  go_simp
  go_wp2_with fail
  refine hK.out _ _ ⟨(HS6.out.boxGet k0m).cellv 2 _ HLv.out.1, (HS6.out.boxGet k0m).cellv 3 _ HLv.out.2.1⟩ (fun hHeld => ?_)
  clear hK K f3 y3
  generalize World.setCell w5 _ _ = w6 at HS6 hHeld ⊢
  refine wpAnyH_done (by kernel_rfl) ?_ _
  clear hHeld HS5
  have RNG := Keep.mk (HS6.out.boxGet k0m).range
  have HRB := Keep.mk (HS6.out.boxGet k1m)
  go_wp2_with (first
    | (show wpList _ _ _ ({ dst := _, op := Op.load 44 _, type := _, pos := _, after := _, guard := _ } :: _) _ _
       refine wpList_load_mid rfl 44 _ rfl _ _ rfl _ _ RNG.out hdu hdr (by rw [HL7.out]; exact info42) ?_)
    | (show wpList _ _ _ ({ dst := _, op := Op.store 44 _ _, type := _, pos := _, after := _, guard := _ } :: _) _ _
       refine store_box _ rb z7 lv 44 rfl rfl rfl rfl HRB.out (by rw [HL7.out]; rfl) (by rw [HL7.out]; exact info42) HL1.out ?_))
  intro w7 hS7 g7
  have S7 := hS7 _ _ HS6.out.swap
  have HS7 := Keep.mk S7
  clear hS7 g7 S7 RNG HRB HS6
  go_wp2_with fail
  exact ret_c rfl rfl (HS7.out.boxGet k0m) hdu hdr (by rw [HL7.out]; exact info42) rfl ⟨rfl, HS7.out.g⟩
end Go.Proofs.YtplcicbpkbamnaaGreatDoor.Lo

/- lobby: tell, Find. -/
namespace Go.Proofs.YtplcicbpkbamnaaGreatDoor.Lo
open Go Go.RowKit Go.Maps

set_option maxRecDepth 100000 in
theorem z7_one : ∀ v ∈ z7, v.oneCell' = true := by
  intro v hv
  simp only [z7, List.mem_cons, List.not_mem_nil, or_false] at hv
  rcases hv with rfl | rfl | rfl | rfl | rfl | rfl | rfl <;> rfl
set_option maxRecDepth 100000 in
theorem sev_lv {r u : Int} {s : Se} {w : World} {b : Nat} (hh : Has w b (sev r u s) 88) : w.rangeAt b 0 (lvc s) := by
  intro j v hv
  have hj : j < 7 := (List.getElem?_eq_some_iff.1 hv).1
  rw [Nat.zero_add]
  refine hh.cellv j v ?_
  unfold sev
  rw [List.append_assoc, List.append_assoc, List.getElem?_append_left hj]
  exact hv
set_option maxRecDepth 100000 in
set_option maxHeartbeats 8000000 in
theorem tell_c (w0 W : World) (b : Nat) (r u : Int) (s : Se) (hole : List As) (hS : Sep w0 W (boxA b (sev r u s) 88 :: hole)) (hn : s.nm.size ≤ 281474976710656) (hf : s.fr.size ≤ 281474976710656) :
    Calls Tryz.prog 32 #[pt b] W fun e W' => e = .returned (.agg (lvc s).toArray) ∧ Sep w0 W' (boxA b (sev r u s) 88 :: hole) := by
  obtain ⟨du, hdu, hdr⟩ := under42
  have S1 := hS.newBox z7.toArray 44
  obtain ⟨W1, hW1⟩ : ∃ W1, W.alloc (.cells z7.toArray 44) = W1 := ⟨_, rfl⟩
  obtain ⟨rb, hrb⟩ : ∃ rb, W.heap.size = rb := ⟨_, rfl⟩
  rw [hW1, hrb] at S1
  change Sep w0 W1 (boxA rb z7 44 :: boxA b (sev r u s) 88 :: hole) at S1
  have RNG := Keep.mk (sev_lv (S1.boxGet k1m))
  have hL := live_c W1 s hn hf
  have HS1 := Keep.mk S1
  have HL1 := Keep.mk (lvc_one s)
  have HL7 : Keep ((lvc s).length = 7) := ⟨rfl⟩
  obtain ⟨lv, hlv⟩ : ∃ lv, lvc s = lv := ⟨_, rfl⟩
  rw [hlv] at RNG HL1 HL7 hL ⊢
  unfold z7 at hW1
  clear hS S1 hn hf hlv
  go_enter Tryz.func32, Tryz.ntmps32
  go_wp2_with (first
    | (show wpList _ _ _ ({ dst := _, op := Op.load 44 _, type := _, pos := _, after := _, guard := _ } :: _) _ _
       refine wpList_load_mid rfl 44 _ rfl _ _ rfl _ _ RNG.out hdu hdr (by rw [HL7.out]; exact info42) ?_))
  refine hL.mono ?_
  rintro e w2 ⟨rfl, g2⟩
  have HS2 := Keep.mk (HS1.out.grown g2)
  have HRB := Keep.mk (HS2.out.boxGet k0m)
  clear hL g2 HS1 RNG hW1 hrb
  go_wp2_with (first
    | (show wpList _ _ _ ({ dst := _, op := Op.store 44 _ _, type := _, pos := _, after := _, guard := _ } :: _) _ _
       refine store_box _ rb z7 lv 44 rfl rfl rfl rfl HRB.out (by rw [HL7.out]; rfl) (by rw [HL7.out]; exact info42) HL1.out ?_))
  intro w7 hS7 g7
  have HS7 := Keep.mk (hS7 _ _ HS2.out)
  clear hS7 g7 HRB HS2
  go_wp2_with fail
  exact ret_c rfl rfl (HS7.out.boxGet k0m) hdu hdr (by rw [HL7.out]; exact info42) rfl ⟨rfl, HS7.out.tail⟩
/-- what Find tells -/
def fndS (X : Lb) (k : Nat) (fr : ByteArray) : List Value × Int := match fds X k with
  | none => (z7, 122)
  | some s => if s.fr = fr then (lvc s, 0) else (z7, 123)
set_option maxRecDepth 100000 in
theorem str_nq {a b : ByteArray} (h : ¬ a = b) : (a.toList == b.toList) = false := by
  rw [beqL, decide_eq_false]
  exact fun e => h (Na.sl_inj e)
end Go.Proofs.YtplcicbpkbamnaaGreatDoor.Lo

/- lobby: Leave. -/
namespace Go.Proofs.YtplcicbpkbamnaaGreatDoor.Lo
open Go Go.RowKit Go.Maps

/-- a session is gone -/
def del (X : Lb) (k : Nat) : Lb := { X with S := X.S.filter fun s => decide (s.num ≠ k) }
set_option maxRecDepth 100000 in
theorem filter_same {S1 : List Se} {k : Nat} (h : k ∉ S1.map Se.num) : (S1.filter fun s => decide (s.num ≠ k)) = S1 := by
  refine List.filter_eq_self.2 fun s hs => ?_
  simp only [decide_eq_true_eq]
  exact fun e => h (e ▸ List.mem_map_of_mem hs)
set_option maxRecDepth 100000 in
theorem lob_del {w0 W : World} {l : List As} {lb : Nat} {X : Lb} (h : Sep w0 W (lobA lb X :: l)) (ok : LbOk X) (k : Nat) (hk : k < 18446744073709551616) {s0 : Se} (hf : fds X k = some s0) :
    ∃ mb b W', W.cell? ⟨lb, 7, none⟩ = some (.map (some mb)) ∧ (Instr.lookup 62 (.map (some mb)) (uv k) true).run Tryz.prog W = .ok (.tuple #[pt b, .bool true]) W ∧ (Builtin.delete_ #[62, 37] 0 #[.map (some mb), uv k]).run Tryz.prog W = .ok (.tuple #[]) W' ∧
      Sep w0 W' (boxA b (sev X.r X.u s0) 88 :: lobA lb (del X k) :: l) := by
  obtain ⟨⟨v, mb, P⟩, h⟩ := h.opn
  have hP : P.map (fun p => p.2) = X.S := h.fact k0m
  have c7 : W.cell? ⟨lb, 7, none⟩ = some (.map (some mb)) := (h.boxGet k1m).cellv 7 _ rfl
  have hl := (h.mapGet k3m).look k hk
  have hkeys : Tb.keys (P.map fun p => (p.2.num, p.1)) = X.S.map Se.num := by
    rw [← hP]; simp [Tb.keys, Function.comp_def]
  have hndM : (Tb.keys (P.map fun p => (p.2.num, p.1))).Nodup := by rw [hkeys]; exact ok.nd
  cases hq : Tb.look (P.map fun p => (p.2.num, p.1)) k with
  | none =>
    have hn := Tb.look_none.1 hq
    rw [hkeys] at hn
    have hm := List.mem_of_find?_eq_some hf
    have hs := List.find?_some hf
    simp only [decide_eq_true_eq] at hs
    exact absurd (hs ▸ List.mem_map_of_mem hm) hn
  | some b =>
    obtain ⟨W', hdr, hS'⟩ := (fr1 [_, _, _] h).mapDrop k hk 0 hndM b hq
    obtain ⟨A, C, hM, hA⟩ := Tb.look_split hq
    obtain ⟨P1, P2', rfl, hP1, hP2⟩ := List.map_eq_append_iff.1 hM
    obtain ⟨p, P2, rfl, hp, hP2⟩ := List.map_eq_cons_iff.1 hP2
    obtain ⟨pb, s⟩ := p
    simp only [Prod.mk.injEq] at hp
    obtain ⟨hs, rfl⟩ := hp
    have hS : X.S = P1.map (fun p => p.2) ++ s :: P2.map (fun p => p.2) := by rw [← hP]; simp
    have hnd := ok.nd
    rw [hS, List.map_append, List.map_cons] at hnd
    obtain ⟨n1, n2, n3⟩ := List.nodup_append.1 hnd
    obtain ⟨n4, n5⟩ := List.nodup_cons.1 n2
    have hk1 : k ∉ (P1.map (fun p => p.2)).map Se.num := fun q => n3 k q k (by rw [hs]; exact List.mem_cons_self ..) rfl
    have hk2 : k ∉ (P2.map (fun p => p.2)).map Se.num := by rw [← hs]; exact n4
    have e0 : s0 = s := by
      unfold fds at hf
      rw [hS, List.find?_append, List.find?_cons] at hf
      have e1 : (P1.map (fun p => p.2)).find? (fun s => decide (s.num = k)) = none := by
        rw [List.find?_eq_none]
        intro z hz
        simp only [decide_eq_true_eq]
        exact fun e => hk1 (e ▸ List.mem_map_of_mem hz)
      rw [e1, hs] at hf
      simpa using hf.symm
    subst e0
    have hrm : Tb.rm ((P1 ++ (pb, s0) :: P2).map fun p => (p.2.num, p.1)) k = (P1 ++ P2).map fun p => (p.2.num, p.1) := by
      rw [List.map_append, List.map_cons, List.map_append]
      simp only [hs]
      refine Tb.rm_mid ?_ ?_
      · simpa [Tb.keys, Function.comp_def] using hk1
      · simpa [Tb.keys, Function.comp_def] using hk2
    simp only at hl
    rw [hq] at hl
    refine ⟨mb, pb, W', c7, hl, hdr, ?_⟩
    rw [hrm] at hS'
    have hU : (P1 ++ P2).map (fun p => p.2) = (del X k).S := by
      simp only [del, hS, List.filter_append, List.filter_cons]
      rw [filter_same hk1, filter_same hk2]
      simp [hs]
    have h2 : Sep w0 W' (([mapA mb ((P1 ++ P2).map fun p => (p.2.num, p.1)), boxA lb [iv (X.most : Nat), uv X.idle, iv X.r, iv X.u, iv (16 * X.u), v, uv X.next, .map (some mb)] 64, rowV 76 33 v X.A.length (acs X.A)] ++ (P1.map fun p => boxA p.1 (sev X.r X.u p.2) 88)) ++ boxA pb (sev X.r X.u s0) 88 :: ((P2.map fun p => boxA p.1 (sev X.r X.u p.2) 88) ++ l)) := by
      have h1 := (fr1 [_] hS').tail
      refine h1.perm (List.Perm.of_eq ?_)
      simp
    have h3 := fr1 _ h2
    have h5 : Sep w0 W' (boxA pb (sev X.r X.u s0) 88 :: ((mapA mb ((P1 ++ P2).map fun p => (p.2.num, p.1)) :: boxA lb [iv (X.most : Nat), uv X.idle, iv X.r, iv X.u, iv (16 * X.u), v, uv X.next, .map (some mb)] 64 :: rowV 76 33 v X.A.length (acs X.A) :: ((P1 ++ P2).map fun p => boxA p.1 (sev X.r X.u p.2) 88)) ++ l)) := by
      refine h3.perm (List.Perm.of_eq ?_)
      simp
    have h6 := bk1 _ h5
    have h7 := h6.perm ((List.perm_append_comm (l₁ := [mapA mb ((P1 ++ P2).map fun p => (p.2.num, p.1))]) (l₂ := [boxA lb [iv (X.most : Nat), uv X.idle, iv X.r, iv X.u, iv (16 * X.u), v, uv X.next, .map (some mb)] 64, rowV 76 33 v X.A.length (acs X.A)])).append_right _)
    exact Sep.swap (Sep.cls (lobL lb (del X k)) (v, mb, P1 ++ P2) (h7.know hU))
/-- what Leave tells -/
def levS (X : Lb) (k : Nat) : List Value × Int := ((fds X k).map fun s => (lvc s, (0 : Int))).getD (z7, 122)
def levX (X : Lb) (k : Nat) : Lb := ((fds X k).map fun _ => del X k).getD X
end Go.Proofs.YtplcicbpkbamnaaGreatDoor.Lo

/- lobby: what is known of a lobby stays so. -/
namespace Go.Proofs.YtplcicbpkbamnaaGreatDoor.Lo
open Go Go.RowKit Go.Maps

set_option maxRecDepth 100000 in
theorem nums_upd {S1 : List Se} {k : Nat} {s' : Se} (hn : s'.num = k) : (S1.map fun s => if s.num = k then s' else s).map Se.num = S1.map Se.num := by
  rw [List.map_map]
  refine List.map_congr_left fun s _ => ?_
  simp only [Function.comp]
  split
  · rename_i e; rw [hn, e]
  · rfl
set_option maxRecDepth 100000 in
theorem LbOk.upd {X : Lb} {k : Nat} {s' : Se} (ok : LbOk X) (hn : s'.num = k) (hb : 1 ≤ s'.num ∧ s'.num < X.next ∧ s'.pl < X.most ∧ s'.key.length = 32 ∧ s'.acc < X.A.length ∧ s'.heard < 18446744073709551616 ∧ s'.high < 18446744073709551616 ∧ s'.sent < 18446744073709551616 ∧ s'.wh < 18446744073709551616 ∧ s'.wb < 18446744073709551616 ∧ 0 ≤ s'.y ∧ s'.y ≤ 16 * X.u ∧ s'.nm.size ≤ 281474976710656 ∧ s'.fr.size ≤ 281474976710656) : LbOk (upd X k s') := by
  refine ⟨ok.m1, ok.m2, ok.r, ok.a1, ok.a2, ok.n1, ok.n2, ?_, fun z hz => ?_, ?_⟩
  · show ((X.S.map fun s => if s.num = k then s' else s).map Se.num).Nodup
    rw [nums_upd hn]; exact ok.nd
  · obtain ⟨z0, hz0, e⟩ := List.mem_map.1 hz
    by_cases q : z0.num = k
    · rw [if_pos q] at e
      subst e
      exact hb
    · rw [if_neg q] at e
      subst e
      exact ok.s z0 hz0
  · show (X.S.map fun s => if s.num = k then s' else s).length ≤ X.most
    rw [List.length_map]; exact ok.le
set_option maxRecDepth 100000 in
theorem LbOk.del {X : Lb} {k : Nat} (ok : LbOk X) : LbOk (del X k) := by
  refine ⟨ok.m1, ok.m2, ok.r, ok.a1, ok.a2, ok.n1, ok.n2, ?_, fun z hz => ok.s z (List.mem_filter.1 hz).1, Nat.le_trans (List.length_filter_le ..) ok.le⟩
  exact ((List.filter_sublist (l := X.S)).map Se.num).nodup ok.nd
set_option maxRecDepth 100000 in
theorem fds_num {X : Lb} {k : Nat} {s : Se} (h : fds X k = some s) : s ∈ X.S ∧ s.num = k := by
  have := List.find?_some h
  simp only [decide_eq_true_eq] at this
  exact ⟨List.mem_of_find?_eq_some h, this⟩
set_option maxRecDepth 100000 in
theorem LbOk.sent {X : Lb} {k : Nat} (ok : LbOk X) : LbOk (sntX X k) := by
  unfold sntX
  cases hf : fds X k with
  | none => exact ok
  | some s =>
    obtain ⟨hm, hn⟩ := fds_num hf
    obtain ⟨b1, b2, b3, b4, b5, b6, b7, b8, b9, b10, b11, b12, b13, b14⟩ := ok.s s hm
    exact ok.upd (s' := snt s) hn ⟨b1, b2, b3, b4, b5, b6, b7, Nat.mod_lt _ (by omega), b9, b10, b11, b12, b13, b14⟩
set_option maxRecDepth 100000 in
theorem LbOk.leave {X : Lb} {k : Nat} (ok : LbOk X) : LbOk (levX X k) := by
  unfold levX
  cases hf : fds X k with
  | none => exact ok
  | some s => exact ok.del
set_option maxRecDepth 100000 in
theorem LbOk.acp {X : Lb} {k q tick : Nat} {cmd : Bool} (ok : LbOk X) (hq : q < 18446744073709551616) (ht : tick < 18446744073709551616) : LbOk (acpX X k q cmd tick) := by
  unfold acpX
  cases hf : fds X k with
  | none => exact ok
  | some s =>
    obtain ⟨hm, hn⟩ := fds_num hf
    obtain ⟨b1, b2, b3, b4, b5, b6, b7, b8, b9, b10, b11, b12, b13, b14⟩ := ok.s s hm
    show LbOk (Lo.upd X k (accE s q cmd tick))
    unfold accE
    by_cases hc : accC s q cmd = 0
    · rw [if_pos hc]
      refine ok.upd (s' := acc s q cmd tick) hn ⟨b1, b2, b3, b4, b5, ht, Wi.mkH_lt b9 hq, b8, Wi.mkH_lt b9 hq, Wi.mkB_lt b10, ?_, ?_, b13, b14⟩
      · show 0 ≤ (if cmd = true then s.y - 16 else s.y)
        by_cases e : cmd = true
        · rw [if_pos e]
          have h16 : ¬ s.y < 16 := fun z => by
            unfold accC at hc
            split at hc
            · omega
            · rw [if_pos ⟨e, z⟩] at hc
              omega
          omega
        · rw [if_neg e]; exact b11
      · show (if cmd = true then s.y - 16 else s.y) ≤ 16 * X.u
        by_cases e : cmd = true
        · rw [if_pos e]; omega
        · rw [if_neg e]; exact b12
    · rw [if_neg hc]
      exact ok.upd (s' := s) hn ⟨b1, b2, b3, b4, b5, b6, b7, b8, b9, b10, b11, b12, b13, b14⟩
end Go.Proofs.YtplcicbpkbamnaaGreatDoor.Lo

