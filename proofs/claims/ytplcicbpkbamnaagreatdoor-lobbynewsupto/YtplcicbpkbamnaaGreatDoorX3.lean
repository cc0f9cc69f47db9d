import Derived.Test.YtplcicbpkbamnaaGreatDoorX2
/- bucket: Ticks, Tick -/
namespace Go.Proofs.YtplcicbpkbamnaaGreatDoor.Lo.Bu
open Go Go.RowKit
set_option maxRecDepth 100000 in
theorem gr_some {w w' : World} (h : w.grownBy w' none) (b : Nat) : w.grownBy w' (some b) := ⟨h.os, h.tape, h.output, h.size, fun i hi _ => h.block i hi (by simp)⟩
def okay (r u : Int) : Prop := 0 ≤ r ∧ r ≤ 1000 ∧ 1 ≤ u ∧ u ≤ 1000
abbrev bv (r u y : Int) : Value := .agg #[.int .i64 r, .int .i64 u, .int .i64 y]
set_option maxRecDepth 100000 in
theorem gr_put {w w1 : World} {b j : Nat} {v : Value} (h : w.grownBy w1 none) (hb : w.heap.size ≤ b) : w.grownBy (w1.setCell ⟨b, j, none⟩ v) none := gr_new h (gr_set w1 b j v) hb
set_option maxRecDepth 100000 in
theorem results_ct {fn : Func} {p q : Tmp} {ty : TypeId} (h : fn.results = #[.cell p ty, .tmp q]) (tmps : Array Value) (P : Program) (w : World) :
    (results fn tmps).run P w = ((asAddr (tmps.getD p undef)).run P w).andThen fun a w₁ => ((loadVar ty a).run P w₁).andThen fun v w₂ => .ok (.tuple #[v, tmps.getD q undef]) w₂ := by
  simp only [results, h]
  simp [Sem.run_bind, Result.andThen]
set_option maxRecDepth 100000 in
theorem ret_ct {P : Program} {fn : Func} {R : Ending → World → Prop} {a : Act} {w : World} {p q : Tmp} {ty t : TypeId} {b : Nat} {cs : List Value} {d : TypeDesc}
    (hr : fn.results = #[.cell p ty, .tmp q]) (hp : a.tmps.getD p undef = .pointer (some ⟨b, 0, none⟩)) (hh : Has w b cs t) (hu : P.underlying ty = some d) (hd : d.isRow = true)
    (hi : (P.info? ty).map (·.size) = some cs.length) (hdf : a.defers = []) (h : R (.returned (.tuple #[.agg cs.toArray, a.tmps.getD q undef])) w) : bodyPost P fn R .ret a w := by
  refine bodyPost_ret (v := .tuple #[.agg cs.toArray, a.tmps.getD q undef]) ?_ hdf h
  rw [results_ct hr, hp]
  simp [asAddr, Result.andThen, run_loadVar_mid w b 0 ty cs d hh.range hu hd hi]
set_option maxRecDepth 100000 in
theorem underB : ∃ d, Tryz.prog.underlying 54 = some d ∧ d.isRow = true := ⟨_, Tryz.underlying54, rfl⟩
set_option maxRecDepth 100000 in
theorem infoB : (Tryz.prog.info? 54).map (·.size) = some 3 := by kernel_rfl
set_option maxRecDepth 100000 in
theorem new_no (r u : Int) (w : World) (h : ¬ okay r u) :
    Calls Tryz.prog 18 #[.int .i64 r, .int .i64 u] w fun e w' => e = .returned (.tuple #[bv 0 0 0, .int .i64 110]) ∧ w.grownBy w' none := by
  obtain ⟨d, hdu, hdr⟩ := underB
  have HN := Has.new w (bks 0 0 0) 54
  go_enter Tryz.func18, Tryz.ntmps18
  go_wp2_with fail
  refine (check_no r u _ h).mono ?_
  rintro e w' ⟨rfl, rfl⟩
  go_wp2_with fail
  exact ret_ct rfl rfl (cs := bks 0 0 0) (t := 54) HN hdu hdr infoB rfl ⟨rfl, World.grownBy_alloc _ _ _⟩
set_option maxRecDepth 100000 in
theorem new_yes (r u : Int) (w : World) (h : okay r u) :
    Calls Tryz.prog 18 #[.int .i64 r, .int .i64 u] w fun e w' => e = .returned (.tuple #[bv r u (16 * u), .int .i64 0]) ∧ w.grownBy w' none := by
  obtain ⟨d, hdu, hdr⟩ := underB
  go_enter Tryz.func18, Tryz.ntmps18
  go_wp2_with fail
  refine (check_yes r u _ h.1 h.2.1 h.2.2.1 h.2.2.2).mono ?_
  rintro e w' ⟨rfl, rfl⟩
  go_wp2_with fail
  refine (full_c r u 0 _ h.2.2.1 h.2.2.2).mono ?_
  rintro e w2 ⟨rfl, g2⟩
  have A1 := ((Has.new w (bks 0 0 0) 54).alloc (.cells #[.int .i64 r, .int .i64 u, .int .i64 0] 54)).kept g2 (by simp)
  have A2 := (Has.new (w.alloc (.cells (bks 0 0 0).toArray 54)) (bks r u 0) 54).kept g2 (by simp)
  have g0 : w.grownBy w2 none := ((World.grownBy_alloc _ _ _).trans (World.grownBy_alloc _ _ _)).trans g2
  rw [World.size_alloc] at A2
  clear g2
  have HG : Keep (w.grownBy w2 none) := ⟨g0⟩
  have z2 := A2.frozen 2
  have z0 := A1.frozen 0
  have z1 := A1.frozen 1
  have z3 := A1.frozen 2
  have c0 := A2.cellv 0 _ rfl
  have c1 := A2.cellv 1 _ rfl
  have c2 := A2.cellv 2 _ rfl
  have c3 := A1.cellv 0 _ rfl
  have c4 := A1.cellv 1 _ rfl
  have c5 := A1.cellv 2 _ rfl
  have HA : Keep (Has w2 w.heap.size (bks 0 0 0) 54 ∧ Has w2 (w.heap.size + 1) (bks r u 0) 54) := ⟨A1, A2⟩
  clear A1 A2 g0
  go_wp2_with fail
  refine ret_ct rfl rfl (cs := bks r u (16 * u)) (t := 54) ((((HA.out.1.other ⟨w.heap.size + 1, 2, none⟩ _ (by simp)).setCell 0 _).setCell 1 _).setCell 2 _) hdu hdr infoB rfl ⟨rfl, ?_⟩
  exact gr_put (gr_put (gr_put (gr_put HG.out (by omega)) (by omega)) (by omega)) (by omega)
end Go.Proofs.YtplcicbpkbamnaaGreatDoor.Lo.Bu

