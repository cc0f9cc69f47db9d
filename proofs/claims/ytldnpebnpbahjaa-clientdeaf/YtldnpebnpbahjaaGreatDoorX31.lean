import Derived.Test.YtldnpebnpbahjaaGreatDoorX30
namespace Go.Proofs.YtldnpebnpbahjaaGreatDoor.Pk.Sn
open Go Go.RowKit

/-- a view -/
structure Vw where
  t : Int
  p : Int
  n : ByteArray
  x : Int
  y : Int
  u : Int
  v : Int
  h : Int
  he : Int
  en : Int
  am : Int
  co : Int
  wt : Int
  sp : Int
  sc : Int
  S : List Sn
/-- its cells -/
def Vw.cs (V : Vw) (a : Option Addr) (c : Nat) : List Value := [uv V.t, iv V.p, .string V.n, iv V.x, iv V.y, iv V.u, iv V.v, iv V.h, iv V.he, iv V.en, iv V.am, iv V.co, iv V.wt, iv V.sp, iv V.sc, .slice a V.S.length c]
/-- its parts -/
def Vw.lv (V : Vw) : List Lv := [.num V.t, .num V.p, .txt (sl V.n), .num V.x, .num V.y, .num V.u, .num V.v, .num V.h, .num V.he, .num V.en, .num V.am, .num V.co, .num V.wt, .num V.sp, .num V.sc, .num (V.S.length : Nat)]
def Vw.zero : Vw := ⟨0, 0, ⟨#[]⟩, 0, 0, 0, 0, 0, 0, 0, 0, 0, 0, 0, 0, []⟩
structure Vw.ok (V : Vw) : Prop where
  h : okL hK V.lv
  s : ∀ s ∈ V.S, s.ok
theorem vw_says (V : Vw) (a : Option Addr) (c : Nat) : Says hMs V.lv (V.cs a c) :=
  ⟨⟨_, rfl, rfl⟩, ⟨_, rfl, rfl⟩, ⟨_, rfl, rfl⟩, ⟨_, rfl, rfl⟩, ⟨_, rfl, rfl⟩, ⟨_, rfl, rfl⟩, ⟨_, rfl, rfl⟩, ⟨_, rfl, rfl⟩, ⟨_, rfl, rfl⟩, ⟨_, rfl, rfl⟩, ⟨_, rfl, rfl⟩, ⟨_, rfl, rfl⟩, ⟨_, rfl, rfl⟩, ⟨_, rfl, rfl⟩, ⟨_, rfl, rfl⟩, ⟨_, _, _, rfl, rfl⟩, trivial⟩
/-- those seen of a view, as they are read -/
def SeenR (w : World) (a : Option Addr) (S : List Sn) : Prop := S ≠ [] → ∃ sb so, a = some ⟨sb, so, none⟩ ∧ SnR w sb so S
theorem SeenR.kept {w w' : World} {a : Option Addr} {S : List Sn} (h : SeenR w a S) (g : w.grownBy w' none) : SeenR w' a S := fun q => by
  obtain ⟨sb, so, e, r⟩ := h q
  exact ⟨sb, so, e, fun j s e i z hz => g.cell (r j s e i z hz) (by simp)⟩
/-- what Write answers -/
def wrS (V : Vw) : WS := laySn V.S (Pk.layL hK V.lv (some []))
def wrV (V : Vw) : List UInt8 × Int := if 255 < V.S.length then ([], 51) else ((wrS V).getD [], werr (wrS V))
set_option maxHeartbeats 8000000 in
set_option maxRecDepth 100000 in
theorem write_big (V : Vw) (a : Option Addr) (c : Nat) (w : World) (h : 255 < V.S.length) :
    Calls Tryz.prog 45 #[.agg (V.cs a c).toArray] w fun e w' => e = .returned (.tuple #[.string ⟨([] : List UInt8).toArray⟩, iv 51]) ∧ w.grownBy w' none := by
  obtain ⟨n, hn⟩ : ∃ n, V.S.length = n := ⟨_, rfl⟩
  have hb : (255 : Int) < (n : Int) := by omega
  obtain ⟨w0, hw0⟩ : ∃ q, w.alloc (.cells (V.cs a c).toArray 49) = q := ⟨_, rfl⟩
  obtain ⟨h0, g0, s0⟩ := hasN hw0
  have c0 : w0.cell? ⟨w.heap.size, 15, none⟩ = some (.slice a n c) := by rw [← hn]; exact h0.cellv 15 _ rfl
  have HG := Keep.mk g0
  unfold Vw.cs at hw0 ⊢
  rw [hn] at hw0 ⊢
  clear h0 g0 s0 hn h
  go_enter Tryz.func45, Tryz.ntmps45
  go_wp2_with fail
  go_ret2
  exact ⟨rfl, HG.out⟩
set_option maxHeartbeats 8000000 in
set_option maxRecDepth 100000 in
theorem write_few (V : Vw) (a : Option Addr) (c : Nat) (w : World) (ho : V.ok) (hr : SeenR w a V.S) (h : V.S.length ≤ 255) :
    Calls Tryz.prog 45 #[.agg (V.cs a c).toArray] w fun e w' => e = .returned (.tuple #[.string ⟨((wrS V).getD []).toArray⟩, iv (werr (wrS V))]) ∧ w.grownBy w' none := by
  obtain ⟨n, hn⟩ : ∃ n, V.S.length = n := ⟨_, rfl⟩
  have hb : ¬ (255 : Int) < (n : Int) := by omega
  obtain ⟨w0, hw0⟩ : ∃ q, w.alloc (.cells (V.cs a c).toArray 49) = q := ⟨_, rfl⟩
  obtain ⟨h0, g0, s0⟩ := hasN hw0
  have c0 : w0.cell? ⟨w.heap.size, 15, none⟩ = some (.slice a n c) := by rw [← hn]; exact h0.cellv 15 _ rfl
  have HG := Keep.mk (And.intro g0 (And.intro h0 s0))
  have HO := Keep.mk (And.intro ho (And.intro hr h))
  have hmf : MF := fun _ _ _ _ => rfl
  unfold Vw.cs at hw0 ⊢
  rw [hn] at hw0 ⊢
  clear h0 g0 s0 hn h ho hr
  go_enter Tryz.func45, Tryz.ntmps45
  go_wp2_with fail
  refine (newW_c w0).mono ?_
  rintro e w1 ⟨wb, rfl, a1, g1, e1⟩
  obtain ⟨w2, hw2⟩ : ∃ q, w1.alloc (.cells #[pa wb 0] 125) = q := ⟨_, rfl⟩
  obtain ⟨h2, g2, s2⟩ := hasN hw2
  have HE := Keep.mk (each_w w2 w.heap.size wb w1.heap.size (.slice none 0 0) (some []) V.lv (V.cs a c) V.S a c ((HG.out.2.1.kept g1 (by simp)).kept g2 (by simp)) (vw_says V a c) rfl HO.out.1.h
    (fun q => by
      obtain ⟨sb, so, e, r⟩ := HO.out.2.1 q
      have hlt : sb < w.heap.size := by
        obtain ⟨s, hs⟩ := some_at (l := V.S) (k := 0) (List.length_pos_iff.2 q)
        exact cell_lt (r 0 s hs 0 _ rfl)
      refine ⟨sb, so, e, ?_, ?_⟩
      · intro j s hj i z hz
        exact g2.cell (g1.cell (HG.out.1.cell (r j s hj i z hz) (by simp)) (by simp)) (by simp)
      · rintro (q | q)
        · have := HG.out.1.size; omega
        · cases q) HO.out.1.s (a1.kept g2)
    (by rintro (q | q)
        · have := HG.out.2.2; omega
        · cases q)
    (by rintro (q | q)
        · have := g1.size; have := (a1.lt wb (.inl rfl)); omega
        · cases q) (h2.cellv 0 _ rfl) (by simp) HO.out.2.2)
  have HG2 := Keep.mk (And.intro ((HG.out.1.trans g1).trans g2) (And.intro (h2.cellv 0 _ rfl : w2.cell? ⟨w1.heap.size, 0, none⟩ = some (pa wb 0)) (And.intro e1 (And.intro HG.out.2.2 (And.intro g1.size (a1.lt wb (.inl rfl)))))))
  clear a1 g1 e1 h2 g2 s2
  go_wp2_with fail
  refine HE.out.mono ?_
  rintro e w3 ⟨rfl, v', dd⟩
  have c3 : w3.cell? ⟨w1.heap.size, 0, none⟩ = some (pa wb 0) := fr_cell dd.f (by
    rintro (q | q)
    · have := HG2.out.2.2.2.2.2; omega
    · cases q) HG2.out.2.1
  have HD : Keep (WAt w3 wb v' (wrS V) ∧ w.grownBy w3 none) := by
    refine ⟨dd.a, fr_mine HG2.out.1 dd.f ?_⟩
    rintro i (q | q)
    · have := HG2.out.2.2; omega
    · cases q
  clear dd HE
  go_wp2_with fail
  refine (wDone_c wb v' (wrS V) w3 HD.out.1).mono ?_
  rintro e w4 ⟨rfl, g4⟩
  have HF := Keep.mk (HD.out.2.trans g4)
  clear g4
  go_wp2_with fail
  go_ret2
  exact ⟨rfl, HF.out⟩
theorem write_c (V : Vw) (a : Option Addr) (c : Nat) (w : World) (ho : V.ok) (hr : SeenR w a V.S) :
    Calls Tryz.prog 45 #[.agg (V.cs a c).toArray] w fun e w' => e = .returned (.tuple #[.string ⟨(wrV V).1.toArray⟩, iv (wrV V).2]) ∧ w.grownBy w' none := by
  unfold wrV
  by_cases h : 255 < V.S.length
  · rw [if_pos h]; exact write_big V a c w h
  · rw [if_neg h]; exact write_few V a c w ho hr (by omega)
end Go.Proofs.YtldnpebnpbahjaaGreatDoor.Pk.Sn

namespace Go.Proofs.YtldnpebnpbahjaaGreatDoor.Pk.Sn
open Go Go.RowKit

theorem results_ct {fn : Func} {p q : Tmp} {ty : TypeId} (h : fn.results = #[.cell p ty, .tmp q]) (tmps : Array Value) (P : Program) (w : World) :
    (results fn tmps).run P w = ((asAddr (tmps.getD p undef)).run P w).andThen fun a w₁ => ((loadVar ty a).run P w₁).andThen fun v w₂ => .ok (.tuple #[v, tmps.getD q undef]) w₂ := by
  simp only [results, h]
  simp [Sem.run_bind, Result.andThen]
theorem ret_ct {P : Program} {fn : Func} {R : Ending → World → Prop} {a : Act} {w : World} {p q : Tmp} {ty t : TypeId} {b : Nat} {cs : List Value} {d : TypeDesc}
    (hr : fn.results = #[.cell p ty, .tmp q]) (hp : a.tmps.getD p undef = .pointer (some ⟨b, 0, none⟩)) (hh : Has w b cs t) (hu : P.underlying ty = some d) (hd : d.isRow = true)
    (hi : (P.info? ty).map (·.size) = some cs.length) (hdf : a.defers = []) (h : R (.returned (.tuple #[.agg cs.toArray, a.tmps.getD q undef])) w) : bodyPost P fn R .ret a w := by
  refine bodyPost_ret (v := .tuple #[.agg cs.toArray, a.tmps.getD q undef]) ?_ hdf h
  rw [results_ct hr, hp]
  simp [asAddr, Result.andThen, run_loadVar_mid w b 0 ty cs d hh.range hu hd hi]
/-- a value of many cells is laid over a block -/
theorem st_all {ops : Array Oper} {rest : List Oper} {op : Oper} {a : Act} {Q : Exit → Act → World → Prop} (w3 : World) (rb : Nat) (ds cs : List Value) (T T' : TypeId) (hgd : op.guard = none) {x y : Operand} (ho : op.op = .store T x y)
    (hx : a.eval x = .pointer (some ⟨rb, 0, none⟩)) (hy : a.eval y = .agg cs.toArray) (hh : Has w3 rb ds T') (hl : cs.length = ds.length) (hi : (Tryz.prog.info? T).map (·.size) = some cs.length) (h1 : ∀ v ∈ cs, v.oneCell' = true)
    (h : ∀ w6, Has w6 rb cs T' → w3.grownBy w6 (some rb) → wpList Tryz.prog ops Q rest (a.put op.dst undef) w6) : wpList Tryz.prog ops Q (op :: rest) a w3 := by
  refine wpList_store_mid hgd T x y ho rb 0 cs.toArray hx hy (hh.there 0 cs.toArray.size (by rw [List.size_toArray]; omega)) (by rw [List.size_toArray]; exact hi) (all_oneCell_toArray h1) ?_
  exact h _ (hh.setAll cs hl) (gr_sets _ _ _ _)
set_option maxRecDepth 100000 in
theorem underV : ∃ d, Tryz.prog.underlying 49 = some d ∧ d.isRow = true := ⟨_, Tryz.underlying49, rfl⟩
set_option maxRecDepth 100000 in
theorem infoV : (Tryz.prog.info? 49).map (·.size) = some 16 := by kernel_rfl
set_option maxRecDepth 100000 in
theorem builtV : Tryz.prog.built 49 [] = some #[.int .u64 0, .int .i64 0, .string { data := #[] }, .int .i64 0, .int .i64 0, .int .i64 0, .int .i64 0, .int .i64 0, .int .i64 0, .int .i64 0, .int .i64 0, .int .i64 0, .int .i64 0, .int .i64 0, .int .i64 0, .slice none 0 0] := by kernel_rfl
theorem vw_zero : Vw.zero.cs none 0 = [uv 0, iv 0, .string ⟨#[]⟩, iv 0, iv 0, iv 0, iv 0, iv 0, iv 0, iv 0, iv 0, iv 0, iv 0, iv 0, iv 0, .slice none 0 0] := rfl
theorem vw_one (V : Vw) (a : Option Addr) (c : Nat) : ∀ v ∈ V.cs a c, v.oneCell' = true := by
  intro v hv
  simp only [Vw.cs, List.mem_cons, List.not_mem_nil, or_false] at hv
  rcases hv with rfl | rfl | rfl | rfl | rfl | rfl | rfl | rfl | rfl | rfl | rfl | rfl | rfl | rfl | rfl | rfl <;> rfl
/-- the view that parts say -/
def vOf (X : List Lv) (S : List Sn) : Vw :=
  match X with
  | [.num t, .num p, .txt n, .num x, .num y, .num u, .num v, .num h, .num he, .num en, .num am, .num co, .num wt, .num sp, .num sc, .num _] => ⟨t, p, ⟨n.toArray⟩, x, y, u, v, h, he, en, am, co, wt, sp, sc, S⟩
  | _ => Vw.zero
/-- how many are seen -/
def cnt (X : List Lv) : Nat :=
  match (X[15]? : Option Lv) with
  | some (Lv.num k) => k.toNat
  | _ => 0
theorem says_cons {m : Mk} {ms : List Mk} {X : List Lv} {Cs : List Value} (h : Says (m :: ms) X Cs) : ∃ x xs z zs, X = x :: xs ∧ Cs = z :: zs ∧ m.r x z ∧ Says ms xs zs := by
  cases X with
  | nil => exact h.elim
  | cons x xs =>
    cases Cs with
    | nil => exact h.elim
    | cons z zs => exact ⟨x, xs, z, zs, rfl, rfl, h.1, h.2⟩
theorem says_nil {X : List Lv} {Cs : List Value} (h : Says [] X Cs) : X = [] ∧ Cs = [] := by
  cases X with
  | nil =>
    cases Cs with
    | nil => exact ⟨rfl, rfl⟩
    | cons z zs => exact h.elim
  | cons x xs => exact h.elim
theorem says_v {X : List Lv} {Cs : List Value} {a : Option Addr} {n c : Nat} (h : Says hMs X Cs) (hc : Cs[15]? = some (.slice a n c)) (S : List Sn) (hS : S.length = n) : Cs = (vOf X S).cs a c ∧ (vOf X S).lv = X ∧ (vOf X S).S = S ∧ cnt X = n := by
  obtain ⟨x0, X0, z0, Z0, rfl, rfl, r0, h⟩ := says_cons h
  obtain ⟨x1, X1, z1, Z1, rfl, rfl, r1, h⟩ := says_cons h
  obtain ⟨x2, X2, z2, Z2, rfl, rfl, r2, h⟩ := says_cons h
  obtain ⟨x3, X3, z3, Z3, rfl, rfl, r3, h⟩ := says_cons h
  obtain ⟨x4, X4, z4, Z4, rfl, rfl, r4, h⟩ := says_cons h
  obtain ⟨x5, X5, z5, Z5, rfl, rfl, r5, h⟩ := says_cons h
  obtain ⟨x6, X6, z6, Z6, rfl, rfl, r6, h⟩ := says_cons h
  obtain ⟨x7, X7, z7, Z7, rfl, rfl, r7, h⟩ := says_cons h
  obtain ⟨x8, X8, z8, Z8, rfl, rfl, r8, h⟩ := says_cons h
  obtain ⟨x9, X9, z9, Z9, rfl, rfl, r9, h⟩ := says_cons h
  obtain ⟨x10, X10, z10, Z10, rfl, rfl, r10, h⟩ := says_cons h
  obtain ⟨x11, X11, z11, Z11, rfl, rfl, r11, h⟩ := says_cons h
  obtain ⟨x12, X12, z12, Z12, rfl, rfl, r12, h⟩ := says_cons h
  obtain ⟨x13, X13, z13, Z13, rfl, rfl, r13, h⟩ := says_cons h
  obtain ⟨x14, X14, z14, Z14, rfl, rfl, r14, h⟩ := says_cons h
  obtain ⟨x15, X15, z15, Z15, rfl, rfl, r15, h⟩ := says_cons h
  obtain ⟨rfl, rfl⟩ : X15 = [] ∧ Z15 = [] := says_nil h
  obtain ⟨y0, rfl, rfl⟩ := r0
  obtain ⟨y1, rfl, rfl⟩ := r1
  obtain ⟨y2, rfl, rfl⟩ := r2
  obtain ⟨y3, rfl, rfl⟩ := r3
  obtain ⟨y4, rfl, rfl⟩ := r4
  obtain ⟨y5, rfl, rfl⟩ := r5
  obtain ⟨y6, rfl, rfl⟩ := r6
  obtain ⟨y7, rfl, rfl⟩ := r7
  obtain ⟨y8, rfl, rfl⟩ := r8
  obtain ⟨y9, rfl, rfl⟩ := r9
  obtain ⟨y10, rfl, rfl⟩ := r10
  obtain ⟨y11, rfl, rfl⟩ := r11
  obtain ⟨y12, rfl, rfl⟩ := r12
  obtain ⟨y13, rfl, rfl⟩ := r13
  obtain ⟨y14, rfl, rfl⟩ := r14
  obtain ⟨a', n', c', rfl, rfl⟩ := r15
  obtain ⟨rfl, rfl, rfl⟩ : a' = a ∧ n' = n ∧ c' = c := by
    have := Option.some.inj hc
    simpa using this
  refine ⟨?_, ?_, rfl, rfl⟩
  · simp only [vOf, Vw.cs, hS, sl_back]
  · simp only [vOf, Vw.lv, hS, sl_mk]

/-- what Read answers -/
def rdV (b : List UInt8) : Vw × Int :=
  let x := takeL hK (b, 0)
  let y := takeSn (cnt x.1) x.2
  if rDone y.2 = 0 then (vOf x.1 y.1, 0) else (Vw.zero, rDone y.2)
/-- what Read leaves -/
structure RdR (w w' : World) (V : Vw) (a : Option Addr) (c : Nat) : Prop where
  g : w.grownBy w' none
  s : (a = none ∧ c = 0 ∧ V.S = []) ∨ ∃ b, a = some ⟨b, 0, none⟩ ∧ c = V.S.length ∧ w.heap.size ≤ b ∧ Has w' b (fls V.S) 98
set_option maxHeartbeats 8000000 in
set_option maxRecDepth 100000 in
theorem read_c (s : ByteArray) (w : World) :
    Calls Tryz.prog 46 #[.string s] w fun e w' => ∃ a c, e = .returned (.tuple #[.agg ((rdV (sl s)).1.cs a c).toArray, iv (rdV (sl s)).2]) ∧ RdR w w' (rdV (sl s)).1 a c := by
  obtain ⟨d, hd, hr⟩ := underV
  have hmf : MF := fun _ _ _ _ => rfl
  obtain ⟨w0, hw0⟩ : ∃ q, w.alloc (.cells #[.int .u64 0, .int .i64 0, .string { data := #[] }, .int .i64 0, .int .i64 0, .int .i64 0, .int .i64 0, .int .i64 0, .int .i64 0, .int .i64 0, .int .i64 0, .int .i64 0, .int .i64 0, .int .i64 0, .int .i64 0, .slice none 0 0] 49) = q := ⟨_, rfl⟩
  obtain ⟨h0, g0, s0⟩ := hasN hw0
  have HG := Keep.mk (And.intro h0 (And.intro g0 s0))
  obtain ⟨VR, hVR⟩ : ∃ q, rdV (sl s) = q := ⟨_, rfl⟩
  rw [hVR]
  have HVR := Keep.mk hVR
  clear h0 g0 s0 hVR
  go_enter Tryz.func46, Tryz.ntmps46
  go_wp2_with fail
  refine (newR_c s w0).mono ?_
  rintro e w1 ⟨rb, B, rfl, a1, g1, l1, l2⟩
  obtain ⟨w2, hw2⟩ : ∃ q, w1.alloc (.cells #[pa rb 0] 134) = q := ⟨_, rfl⟩
  obtain ⟨h2, g2, s2⟩ := hasN hw2
  obtain ⟨w3, hw3⟩ : ∃ q, w2.alloc (.cells #[.int .u64 0, .int .i64 0, .string { data := #[] }, .int .i64 0, .int .i64 0, .int .i64 0, .int .i64 0, .int .i64 0, .int .i64 0, .int .i64 0, .int .i64 0, .int .i64 0, .int .i64 0, .int .i64 0, .int .i64 0, .slice none 0 0] 49) = q := ⟨_, rfl⟩
  obtain ⟨h3, g3, s3⟩ := hasN hw3
  have hrl : rb < w1.heap.size := by obtain ⟨⟨a, c, q1, q2⟩, _⟩ := a1; exact q1.lt
  have hBl : B < w1.heap.size := a1.lt
  have HE := Keep.mk (each_r w3 w2.heap.size rb B w1.heap.size (sl s, 0) [uv 0, iv 0, .string ⟨#[]⟩, iv 0, iv 0, iv 0, iv 0, iv 0, iv 0, iv 0, iv 0, iv 0, iv 0, iv 0, iv 0, .slice none 0 0] h3 rfl ((a1.kept g2).kept g3) (by omega) (by omega) (g3.cell (h2.cellv 0 _ rfl) (by simp)) (by omega) (by omega))
  have HW := Keep.mk (And.intro (((HG.out.2.1.trans g1).trans g2).trans g3) (And.intro ((((HG.out.1.kept g1 (by simp)).kept g2 (by simp)).kept g3 (by simp))) (And.intro (g3.cell (h2.cellv 0 _ rfl) (by simp) : w3.cell? ⟨w1.heap.size, 0, none⟩ = some (pa rb 0)) (And.intro (And.intro l1 HG.out.2.2) (And.intro hrl (And.intro s2 (And.intro s3 g1.size)))))))
  clear a1 g1 l1 l2 h2 g2 h3 g3 hrl hBl s2 s3
  go_wp2_with fail
  refine HE.out.mono ?_
  rintro e w4 ⟨rfl, Cs, n, g, ER⟩
  obtain ⟨hg3, hz3, hx3, hl1, hrl, hs2, hs3, hg1⟩ := HW.out
  have c4 : w4.cell? ⟨w1.heap.size, 0, none⟩ = some (pa rb 0) := fr_cell ER.f (by omega) hx3
  have HV : Keep (Cs = (vOf (takeL hK (sl s, 0)).1 (takeSn n (takeL hK (sl s, 0)).2).1).cs (some ⟨g, 0, none⟩) n ∧ cnt (takeL hK (sl s, 0)).1 = n ∧ (vOf (takeL hK (sl s, 0)).1 (takeSn n (takeL hK (sl s, 0)).2).1).S = (takeSn n (takeL hK (sl s, 0)).2).1) := by
    obtain ⟨q1, q2, q3, q4⟩ := says_v ER.s ER.c (takeSn n (takeL hK (sl s, 0)).2).1 (takeSn_len _ _)
    exact ⟨q1, q4, q3⟩
  have hz4 : Has w4 w.heap.size [uv 0, iv 0, .string ⟨#[]⟩, iv 0, iv 0, iv 0, iv 0, iv 0, iv 0, iv 0, iv 0, iv 0, iv 0, iv 0, iv 0, .slice none 0 0] 49 := by
    exact hz3.fr ER.f (by omega)
  have HR : Keep (Has w4 w.heap.size [uv 0, iv 0, .string ⟨#[]⟩, iv 0, iv 0, iv 0, iv 0, iv 0, iv 0, iv 0, iv 0, iv 0, iv 0, iv 0, iv 0, .slice none 0 0] 49 ∧ Has w4 w2.heap.size Cs 49 ∧ Has w4 g (fls (takeSn n (takeL hK (sl s, 0)).2).1) 98 ∧ RAt w4 rb B (takeSn n (takeL hK (sl s, 0)).2).2 ∧ w.grownBy w4 none ∧ w.heap.size < g) := by
    have := ER.gg
    refine ⟨hz4, ER.v, ER.h, ER.r, fr_mine hg3 ER.f (fun i e => ?_), ?_⟩ <;> omega
  obtain ⟨y, hy⟩ : ∃ y, takeSn n (takeL hK (sl s, 0)).2 = y := ⟨_, rfl⟩
  have HRD : Keep (VR = if rDone y.2 = 0 then (vOf (takeL hK (sl s, 0)).1 y.1, 0) else (Vw.zero, rDone y.2)) := by
    rw [← HVR.out]
    unfold rdV
    simp only [HV.out.2.1, hy]
    exact ⟨trivial⟩
  rw [hy] at HR HV
  have HN : Keep (y.1.length = n) := ⟨by rw [← hy]; exact takeSn_len _ _⟩
  obtain ⟨dn, hdn⟩ : ∃ q, rDone y.2 = q := ⟨_, rfl⟩
  have HDN := Keep.mk (rDone_c rb B y.2 w4 HR.out.2.2.2.1)
  rw [hdn] at HRD HDN
  clear ER hg3 hz3 hx3 hl1 hrl hs2 hs3 hg1 hz4 HE HW hy
  go_wp2_with fail
  refine HDN.out.mono ?_
  rintro e w5 ⟨rfl, hw5⟩
  subst hw5
  clear HDN hdn
  by_cases h0 : dn = 0
  · have HR2 : Keep (VR = (vOf (takeL hK (sl s, 0)).1 y.1, 0)) := by
      have h := HRD.out
      rw [if_pos h0] at h
      exact ⟨h⟩
    have hq : (dn == 0) = true := by simp [h0]
    have HD0 := Keep.mk h0
    obtain ⟨V, hV⟩ : ∃ V, vOf (takeL hK (sl s, 0)).1 y.1 = V := ⟨_, rfl⟩
    rw [hV] at HV HR2
    clear h0 HRD hV
    have hCs := HV.out.1
    subst hCs
    go_wp2_with (first
      | (with_reducible show wpList _ _ _ ({ dst := _, op := Op.load 49 _, type := _, pos := _, after := _, guard := _ } :: _) _ _
         refine load_g rfl 49 _ rfl w2.heap.size 0 rfl (V.cs (some ⟨g, 0, none⟩) n) d HR.out.2.1.range hd hr infoV ?_)
      | (with_reducible show wpList _ _ _ ({ dst := _, op := Op.store 49 _ _, type := _, pos := _, after := _, guard := _ } :: _) _ _
         refine st_all _ w.heap.size [uv 0, iv 0, .string ⟨#[]⟩, iv 0, iv 0, iv 0, iv 0, iv 0, iv 0, iv 0, iv 0, iv 0, iv 0, iv 0, iv 0, .slice none 0 0] (V.cs (some ⟨g, 0, none⟩) n) 49 49 rfl rfl rfl rfl HR.out.1 rfl infoV (vw_one _ _ _) ?_
         intro w6 h6 g6
         have HF := Keep.mk (And.intro h6 g6)
         clear h6 g6))
    exact ret_ct rfl rfl HF.out.1 hd hr infoV rfl (by rw [HR2.out]; exact ⟨some ⟨g, 0, none⟩, n, rfl, gr_new HR.out.2.2.2.2.1 HF.out.2 (Nat.le_refl _), .inr ⟨g, rfl, by rw [HV.out.2.2]; exact HN.out.symm, by have := HR.out.2.2.2.2.2; omega, by rw [HV.out.2.2]; exact HR.out.2.2.1.kept HF.out.2 (fun e => by have := Option.some.inj e; have := HR.out.2.2.2.2.2; omega)⟩⟩)
  · have HR2 : Keep (VR = (Vw.zero, dn)) := by
      have h := HRD.out
      rw [if_neg h0] at h
      exact ⟨h⟩
    have hq : (dn == 0) = false := by simp [h0]
    clear h0 HRD
    have HBT := Keep.mk builtV
    go_wp2_with (first
      | (with_reducible show wpList _ _ _ ({ dst := _, op := Op.build 49 _, type := _, pos := _, after := _, guard := _ } :: _) _ _
         refine wpList_build rfl 49 _ rfl _ ((congrArg (Tryz.prog.built 49) (by simp only [List.map_toArray, List.map_nil]; rfl)).trans HBT.out) ?_)
      | (with_reducible show wpList _ _ _ ({ dst := _, op := Op.store 49 _ _, type := _, pos := _, after := _, guard := _ } :: _) _ _
         refine st_all _ w.heap.size [uv 0, iv 0, .string ⟨#[]⟩, iv 0, iv 0, iv 0, iv 0, iv 0, iv 0, iv 0, iv 0, iv 0, iv 0, iv 0, iv 0, .slice none 0 0] (Vw.zero.cs none 0) 49 49 rfl rfl rfl rfl HR.out.1 rfl infoV (vw_one _ _ _) ?_
         intro w6 h6 g6
         have HF := Keep.mk (And.intro h6 g6)
         clear h6 g6))
    exact ret_ct rfl rfl HF.out.1 hd hr infoV rfl (by rw [HR2.out]; exact ⟨none, 0, rfl, gr_new HR.out.2.2.2.2.1 HF.out.2 (Nat.le_refl _), .inl ⟨rfl, rfl, rfl⟩⟩)
end Go.Proofs.YtldnpebnpbahjaaGreatDoor.Pk.Sn

namespace Go.Proofs.YtldnpebnpbahjaaGreatDoor.Pk.Sn
open Go Go.RowKit

def encS (S : List Sn) : List UInt8 := S.flatMap fun s => encL tK s.lv
def fitS (S : List Sn) : Prop := ∀ s ∈ S, fitL tK s.lv
/-- a view's bytes -/
def encV (V : Vw) : List UInt8 := encL hK V.lv ++ encS V.S
structure fitV (V : Vw) : Prop where
  h : fitL hK V.lv
  s : fitS V.S
theorem laySn_none (S : List Sn) : laySn S none = none := by
  unfold laySn
  induction S with
  | nil => rfl
  | cons s r ih => rw [List.foldl_cons, layL_none, ih]
theorem laySn_yes (S : List Sn) (T : List UInt8) (h : ∀ s ∈ S, s.ok) (hf : fitS S) : laySn S (some T) = some (T ++ encS S) := by
  induction S generalizing T with
  | nil => simp [laySn, encS]
  | cons s r ih =>
    have h1 := layL_eq tK s.lv T (h s (by simp))
    rw [if_pos (hf s (by simp))] at h1
    have h2 : laySn (s :: r) (some T) = laySn r (Pk.layL tK s.lv (some T)) := rfl
    rw [h2, h1, ih _ (fun x hx => h x (by simp [hx])) (fun x hx => hf x (by simp [hx]))]
    simp [encS, List.append_assoc]
theorem laySn_no (S : List Sn) (T : List UInt8) (h : ∀ s ∈ S, s.ok) (hf : ¬ fitS S) : laySn S (some T) = none := by
  induction S generalizing T with
  | nil => exact absurd (fun _ hx => absurd hx List.not_mem_nil) hf
  | cons s r ih =>
    have h1 := layL_eq tK s.lv T (h s (by simp))
    have h2 : laySn (s :: r) (some T) = laySn r (Pk.layL tK s.lv (some T)) := rfl
    rw [h2, h1]
    by_cases hs : fitL tK s.lv
    · rw [if_pos hs]
      refine ih _ (fun x hx => h x (by simp [hx])) (fun q => hf (fun x hx => ?_))
      rcases List.mem_cons.1 hx with rfl | hx
      · exact hs
      · exact q x hx
    · rw [if_neg hs, laySn_none]
theorem lv_len (V : Vw) : V.lv.length = 16 := rfl
theorem fit_cnt : ∀ {V : Vw}, fitL hK V.lv → V.S.length ≤ 255 := fun {V} h => by
  have h16 : fitK .u1 (.num (V.S.length : Nat)) := h.2.2.2.2.2.2.2.2.2.2.2.2.2.2.2.1
  have : (0 : Int) ≤ (V.S.length : Nat) ∧ ((V.S.length : Nat) : Int) < 256 := h16
  omega
theorem wrS_yes {V : Vw} (h : V.ok) (hf : fitV V) : wrS V = some (encV V) := by
  unfold wrS
  have h1 := layL_eq hK V.lv [] h.h
  rw [if_pos hf.h] at h1
  rw [h1, laySn_yes _ _ h.s hf.s]; rfl
theorem wrS_no {V : Vw} (h : V.ok) (hf : ¬ fitV V) : wrS V = none := by
  unfold wrS
  have h1 := layL_eq hK V.lv [] h.h
  rw [h1]
  by_cases hh : fitL hK V.lv
  · rw [if_pos hh]
    exact laySn_no _ _ h.s (fun q => hf ⟨hh, q⟩)
  · rw [if_neg hh, laySn_none]
theorem wrV_yes {V : Vw} (h : V.ok) (hf : fitV V) : wrV V = (encV V, 0) := by
  unfold wrV
  have := fit_cnt hf.h
  rw [if_neg (by omega), wrS_yes h hf]; rfl
theorem wrV_no {V : Vw} (h : V.ok) (hf : ¬ fitV V) : wrV V = ([], 51) := by
  unfold wrV
  rw [wrS_no h hf]
  split <;> rfl
theorem wrV_fit {V : Vw} (h : V.ok) (e : (wrV V).2 = 0) : fitV V := by
  refine Classical.byContradiction (fun q => ?_)
  rw [wrV_no h q] at e
  cases e
theorem snoc_ind {α : Type} {P : List α → Prop} (h0 : P []) (h1 : ∀ S s, P S → P (S ++ [s])) (S : List α) : P S := by
  have h : ∀ L : List α, P L.reverse := by
    intro L
    induction L with
    | nil => exact h0
    | cons a r ih => rw [List.reverse_cons]; exact h1 _ a ih
  have := h S.reverse
  rwa [List.reverse_reverse] at this
theorem takeSn_sh : ∀ (n : Nat) {st : RS}, Sh st → Sh (takeSn n st).2
  | 0, _, h => h
  | n + 1, _, h => by
    have h2 := takeL_sh tK (takeSn_sh n h)
    simp only [takeSn]; exact h2
theorem encS_app (S : List Sn) (s : Sn) : encS (S ++ [s]) = encS S ++ encL tK s.lv := by simp [encS]
theorem takeSn_out (S : List Sn) : ∀ (n : Nat) (R : List UInt8), n = S.length → (∀ s ∈ S, s.ok) → fitS S → takeSn n (encS S ++ R, 0) = (S, (R, 0)) := by
  refine snoc_ind (P := fun S => ∀ (n : Nat) (R : List UInt8), n = S.length → (∀ s ∈ S, s.ok) → fitS S → takeSn n (encS S ++ R, 0) = (S, (R, 0))) ?_ ?_ S
  · intro n R hn _ _; subst hn; rfl
  · intro S s ih n R hn ho hf
    rw [List.length_append] at hn
    obtain ⟨m, rfl⟩ : ∃ m, n = m + 1 := ⟨n - 1, by simp at hn; omega⟩
    have e := ih m (encL tK s.lv ++ R) (by simp at hn; omega) (fun x hx => ho x (by simp [hx])) (fun x hx => hf x (by simp [hx]))
    rw [encS_app, List.append_assoc, takeSn, e]
    have e2 := takeL_out tK s.lv R (ho s (by simp)) (hf s (by simp))
    simp only [e2]
    rfl
theorem takeSn_in : ∀ (n : Nat) {st : RS} (_ : Sh st) (S : List Sn) (R : List UInt8), takeSn n st = (S, (R, 0)) → st = (encS S ++ R, 0) ∧ fitS S ∧ (∀ s ∈ S, s.ok)
  | 0, st, _, S, R, e => by
    simp only [takeSn, Prod.mk.injEq] at e
    obtain ⟨rfl, rfl⟩ := e
    exact ⟨rfl, (fun _ h => absurd h List.not_mem_nil), (fun _ h => absurd h List.not_mem_nil)⟩
  | n + 1, st, h, S, R, e => by
    simp only [takeSn, Prod.mk.injEq] at e
    obtain ⟨e1, e2⟩ := e
    obtain ⟨q1, q2⟩ := takeL_in tK (takeSn_sh n h) _ R (Prod.ext rfl e2)
    obtain ⟨q3, q4, q5⟩ := takeSn_in n h _ _ (Prod.ext rfl q1)
    have hl := snOf_lv (takeSn n st).2
    subst e1
    refine ⟨?_, ?_, ?_⟩
    · rw [encS_app, List.append_assoc, hl]; exact q3
    · intro s hs
      rcases List.mem_append.1 hs with q | q
      · exact q4 s q
      · rw [List.mem_singleton] at q; subst q; rw [hl]; exact q2
    · intro s hs
      rcases List.mem_append.1 hs with q | q
      · exact q5 s q
      · rw [List.mem_singleton] at q; subst q; unfold Sn.ok; rw [hl]; exact takeL_ok tK _
theorem takeSn_end : ∀ n, (takeSn n ([], 50)).2 = ([], 50)
  | 0 => rfl
  | n + 1 => by rw [takeSn, takeSn_end n]; exact takeL_end tK
theorem takeSn_short (S : List Sn) : ∀ (n : Nat) (P Q : List UInt8), n = S.length → (∀ s ∈ S, s.ok) → fitS S → encS S = P ++ Q → Q ≠ [] → (takeSn n (P, 0)).2 = ([], 50) := by
  refine snoc_ind (P := fun S => ∀ (n : Nat) (P Q : List UInt8), n = S.length → (∀ s ∈ S, s.ok) → fitS S → encS S = P ++ Q → Q ≠ [] → (takeSn n (P, 0)).2 = ([], 50)) ?_ ?_ S
  · intro n P Q _ _ _ e hq
    have := List.append_eq_nil_iff.1 (show P ++ Q = [] from e.symm)
    exact absurd this.2 hq
  · intro S s ih n P Q hn ho hf e hq
    rw [List.length_append] at hn
    obtain ⟨m, rfl⟩ : ∃ m, n = m + 1 := ⟨n - 1, by simp at hn; omega⟩
    have hm : m = S.length := by simp at hn; omega
    have ho' : ∀ x ∈ S, x.ok := fun x hx => ho x (by simp [hx])
    have hf' : fitS S := fun x hx => hf x (by simp [hx])
    rw [encS_app] at e
    rw [takeSn]
    rcases List.append_eq_append_iff.1 e with ⟨a, h1, h2⟩ | ⟨a, h1, h2⟩
    · rw [h1, takeSn_out S m a hm ho' hf']
      exact takeL_short tK s.lv a Q (ho s (by simp)) (hf s (by simp)) h2 hq
    · by_cases ha : a = []
      · subst ha
        simp only [List.append_nil, List.nil_append] at h1 h2
        have := takeSn_out S m [] hm ho' hf'
        rw [List.append_nil] at this
        rw [← h1, this]
        exact takeL_short tK s.lv [] Q (ho s (by simp)) (hf s (by simp)) (by simpa using h2.symm) hq
      · rw [ih m P a hm ho' hf' h1 ha]
        exact takeL_end tK
theorem vOf_lv (V : Vw) : vOf V.lv V.S = V := by
  cases V
  simp only [vOf, Vw.lv, sl_back]
theorem cnt_lv (V : Vw) : cnt V.lv = V.S.length := by
  simp [cnt, Vw.lv]
/-- what is written is read -/
theorem rd_wr {V : Vw} (h : V.ok) (hf : fitV V) : rdV (encV V) = (V, 0) := by
  unfold rdV encV
  have e1 := takeL_out hK V.lv (encS V.S) h.h hf.h
  have e2 := takeSn_out V.S V.S.length [] rfl h.s hf.s
  rw [List.append_nil] at e2
  simp only [e1, cnt_lv, e2, vOf_lv]
  rfl
theorem rd_more {V : Vw} (h : V.ok) (hf : fitV V) (x : UInt8) : rdV (encV V ++ [x]) = (Vw.zero, 51) := by
  unfold rdV encV
  rw [List.append_assoc]
  have e1 := takeL_out hK V.lv (encS V.S ++ [x]) h.h hf.h
  have e2 := takeSn_out V.S V.S.length [x] rfl h.s hf.s
  simp only [e1, cnt_lv, e2]
  rfl
theorem rDone_end : rDone ([], 50) = 50 := rfl
theorem rd_short {V : Vw} (h : V.ok) (hf : fitV V) (P Q : List UInt8) (e : encV V = P ++ Q) (hq : Q ≠ []) : rdV P = (Vw.zero, 50) := by
  unfold rdV
  unfold encV at e
  rcases List.append_eq_append_iff.1 e with ⟨a, h1, h2⟩ | ⟨a, h1, h2⟩
  · have e1 := takeL_out hK V.lv a h.h hf.h
    have e2 := takeSn_short V.S V.S.length a Q rfl h.s hf.s h2 hq
    subst h1
    simp only [e1, cnt_lv, e2, rDone_end]
    rfl
  · by_cases ha : a = []
    · subst ha
      simp only [List.append_nil, List.nil_append] at h1 h2
      have e1 := takeL_out hK V.lv [] h.h hf.h
      rw [List.append_nil] at e1
      have e2 := takeSn_short V.S V.S.length [] Q rfl h.s hf.s (by simpa using h2.symm) hq
      subst h1
      simp only [e1, cnt_lv, e2, rDone_end]
      rfl
    · have e1 := takeL_short hK V.lv P a h.h hf.h h1 ha
      simp only [e1, takeSn_end, rDone_end]
      rfl
theorem vOf_take (st : RS) (S : List Sn) (h : S.length = cnt (takeL hK st).1) : (vOf (takeL hK st).1 S).lv = (takeL hK st).1 ∧ (vOf (takeL hK st).1 S).S = S := by
  have hk : hK = [.u8, .u1, .tx, .sg, .sg, .sg, .sg, .sg, .sg, .sg, .sg, .sg, .sg, .sg, .sg, .u1] := rfl
  rw [hk] at h ⊢
  simp only [takeL, takeK, cnt] at h ⊢
  simp only [vOf, Vw.lv, sl_mk]
  refine ⟨?_, trivial⟩
  have h2 : S.length = _ := h
  rw [h2]
  simp
/-- what is read is written so -/
theorem wr_rd {b : List UInt8} (e : (rdV b).2 = 0) : (rdV b).1.ok ∧ fitV (rdV b).1 ∧ encV (rdV b).1 = b := by
  obtain ⟨x, hx⟩ : ∃ q, takeL hK (b, 0) = q := ⟨_, rfl⟩
  obtain ⟨y, hy⟩ : ∃ q, takeSn (cnt x.1) x.2 = q := ⟨_, rfl⟩
  have hr : rdV b = if rDone y.2 = 0 then (vOf x.1 y.1, 0) else (Vw.zero, rDone y.2) := by
    unfold rdV; simp only [hx, hy]
  by_cases hd : rDone y.2 = 0
  rotate_left
  · rw [hr, if_neg hd] at e; exact absurd e hd
  rw [hr, if_pos hd]
  have hsh : Sh x.2 := by rw [← hx]; exact takeL_sh hK (.inl rfl)
  have hy2 : y.2 = ([], 0) := by
    unfold rDone at hd
    split at hd
    · cases hd
    · rename_i hl
      have : y.2.1 = [] := List.length_eq_zero_iff.1 (by omega)
      exact Prod.ext this hd
  obtain ⟨q1, q2, q3⟩ := takeSn_in (cnt x.1) hsh y.1 [] (by rw [hy]; exact Prod.ext rfl hy2)
  rw [List.append_nil] at q1
  obtain ⟨q4, q5⟩ := takeL_in hK (.inl rfl : Sh (b, 0)) x.1 (encS y.1) (by rw [hx]; exact Prod.ext rfl q1)
  have hok : okL hK x.1 := by rw [← hx]; exact takeL_ok hK _
  have hlen : y.1.length = cnt x.1 := by rw [← hy]; exact takeSn_len _ _
  have hX : (vOf x.1 y.1).lv = x.1 ∧ (vOf x.1 y.1).S = y.1 := by
    rw [← hx] at hlen ⊢
    generalize y.1 = S at hlen ⊢
    exact vOf_take (b, 0) S hlen
  refine ⟨⟨by rw [hX.1]; exact hok, by rw [hX.2]; exact q3⟩, ⟨by rw [hX.1]; exact q5, by rw [hX.2]; exact q2⟩, ?_⟩
  unfold encV
  rw [hX.1, hX.2]
  exact (congrArg Prod.fst q4).symm
theorem rd_codes (b : List UInt8) : ((rdV b).2 = 0 ∨ (rdV b).2 = 50 ∨ (rdV b).2 = 51) ∧ ((rdV b).2 ≠ 0 → (rdV b).1 = Vw.zero) := by
  obtain ⟨x, hx⟩ : ∃ q, takeL hK (b, 0) = q := ⟨_, rfl⟩
  obtain ⟨y, hy⟩ : ∃ q, takeSn (cnt x.1) x.2 = q := ⟨_, rfl⟩
  have hr : rdV b = if rDone y.2 = 0 then (vOf x.1 y.1, 0) else (Vw.zero, rDone y.2) := by
    unfold rdV; simp only [hx, hy]
  have hsh : Sh y.2 := by rw [← hy]; exact takeSn_sh _ (by rw [← hx]; exact takeL_sh hK (.inl rfl))
  have hdn : rDone y.2 = 0 ∨ rDone y.2 = 50 ∨ rDone y.2 = 51 := by
    unfold rDone
    split
    · exact .inr (.inr rfl)
    · rcases hsh with h | h
      · exact .inl h
      · rw [h]; exact .inr (.inl rfl)
  rw [hr]
  by_cases hd : rDone y.2 = 0
  · rw [if_pos hd]; exact ⟨.inl rfl, fun q => absurd rfl q⟩
  · rw [if_neg hd]
    exact ⟨hdn, fun _ => rfl⟩
theorem encS_len (S : List Sn) : (encS S).length = 26 * S.length := by
  unfold encS
  induction S with
  | nil => rfl
  | cons s r ih =>
    rw [List.flatMap_cons, List.length_append, ih, List.length_cons]
    have : (encL tK s.lv).length = 26 := by
      simp [tK, tMs, Mk.kd, Sn.lv, encL, encK, be_len]
    omega
theorem encV_len (V : Vw) : (encV V).length = 107 + V.n.size + 26 * V.S.length := by
  unfold encV
  rw [List.length_append, encS_len]
  have : (encL hK V.lv).length = 107 + V.n.size := by
    simp [hK, hMs, Mk.kd, Vw.lv, encL, encK, be_len, sl_len]; omega
  omega
end Go.Proofs.YtldnpebnpbahjaaGreatDoor.Pk.Sn

