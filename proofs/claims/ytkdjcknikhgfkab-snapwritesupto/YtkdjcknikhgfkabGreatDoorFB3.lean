import Derived.Test.YtkdjcknikhgfkabGreatDoorFB2
/- what each field's second function does; the fields -/
namespace Go.Proofs.YtkdjcknikhgfkabGreatDoor.Pk
open Go Go.RowKit

/-- its texts are no longer than that -/
structure Dg.small (d : Dg) : Prop where
  n : d.nonce.size ≤ 1099511627776
  c : d.cookie.size ≤ 1099511627776
  m : d.name.size ≤ 1099511627776
  s : d.salt.size ≤ 1099511627776
  dt : d.data.size ≤ 1099511627776
  t : d.tag.size ≤ 1099511627776
def LayC (w : World) (f : Fd) (n : Nat) (c : Array Value) : Prop :=
  Enters n ∧ ∀ (W : World) (db ob wb : Nat) (v : Value) (d : Dg) (st : WS) (r : Bool), w.grownBy W none → w.heap.size ≤ ob → w.heap.size ≤ wb → (∀ k, v.ownBlock = some k → w.heap.size ≤ k) → Lay W db ob wb v d.cells st r → d.fine → d.small →
    Calls Tryz.prog n (#[pv db, pv ob] ++ c) W fun e w' => e = .returned (.tuple #[]) ∧ ∃ v', OD W w' ob wb v (ly d f (st, r)).1 (ly d f (st, r)).2 v'
set_option maxRecDepth 100000 in
theorem LayC.kept {w w' : World} {f : Fd} {n : Nat} {c : Array Value} (h : LayC w f n c) (g : w.grownBy w' none) : LayC w' f n c :=
  ⟨h.1, fun W db ob wb v d st r gW l1 l2 l3 t => h.2 W db ob wb v d st r (g.trans gW) (Nat.le_trans g.size l1) (Nat.le_trans g.size l2) (fun k e => Nat.le_trans g.size (l3 k e)) t⟩
set_option maxRecDepth 100000 in
theorem not_of {w : World} {ob wb : Nat} {v : Value} {b : Nat} (hb : b < w.heap.size) (l1 : w.heap.size ≤ ob) (l2 : w.heap.size ≤ wb) (l3 : ∀ k, v.ownBlock = some k → w.heap.size ≤ k) : ¬ OF ob wb v b := by
  rintro (e | e | e)
  · omega
  · omega
  · have := l3 _ e; omega
/-- a field's two functions -/
def FieldC (w : World) (f : Fd) (vt vl : Value) : Prop := ∃ nt ct nl cl, vt = .func (.func nt) #[] ct ∧ vl = .func (.func nl) #[] cl ∧ TakeC w f nt ct ∧ LayC w f nl cl
set_option maxRecDepth 100000 in
theorem FieldC.kept {w w' : World} {f : Fd} {vt vl : Value} (h : FieldC w f vt vl) (g : w.grownBy w' none) : FieldC w' f vt vl := by
  obtain ⟨nt, ct, nl, cl, e1, e2, h1, h2⟩ := h
  exact ⟨nt, ct, nl, cl, e1, e2, h1.kept g, h2.kept g⟩
set_option maxRecDepth 100000 in
theorem en119 : Enters 166 := fun _ _ => by kernel_rfl
set_option maxRecDepth 100000 in
theorem en124 : Enters 170 := fun _ _ => by kernel_rfl
set_option maxRecDepth 100000 in
theorem en130 : Enters 173 := fun _ _ => by kernel_rfl
set_option maxRecDepth 100000 in
theorem en99 : Enters 142 := fun _ _ => by kernel_rfl
set_option maxRecDepth 100000 in
theorem en107 : Enters 149 := fun _ _ => by kernel_rfl
set_option maxRecDepth 100000 in
theorem en93 : Enters 137 := fun _ _ => by kernel_rfl
set_option maxRecDepth 100000 in
theorem en110 : Enters 152 := fun _ _ => by kernel_rfl
set_option maxRecDepth 100000 in
theorem en87 : Enters 131 := fun _ _ => by kernel_rfl
set_option maxHeartbeats 8000000 in
set_option maxRecDepth 100000 in
theorem ly_nonce (w : World) (b1 b2 : Nat) (h1 : Has w b1 [.int .i64 (16 : Nat)] 3) (h2 : Has w b2 [fv 127] 176) : LayC w .nonce 166 #[pv b2, pv b1] := by
  refine ⟨en119, fun W db ob wb v d st r g l1 l2 l3 t fi sm => ?_⟩
  show Calls Tryz.prog 166 #[pv db, pv ob, pv b2, pv b1] W _
  exact fixed2_c 127 1 16 db ob wb b1 b2 v d.cells st r d.nonce sm.n W p83 (h1.kept g (by simp)) (h2.kept g (by simp)) (not_of h1.lt l1 l2 l3) (not_of h2.lt l1 l2 l3) t rfl
set_option maxHeartbeats 8000000 in
set_option maxRecDepth 100000 in
theorem ly_salt (w : World) (b1 b2 : Nat) (h1 : Has w b1 [.int .i64 (16 : Nat)] 3) (h2 : Has w b2 [fv 143] 176) : LayC w .salt 166 #[pv b2, pv b1] := by
  refine ⟨en119, fun W db ob wb v d st r g l1 l2 l3 t fi sm => ?_⟩
  show Calls Tryz.prog 166 #[pv db, pv ob, pv b2, pv b1] W _
  exact fixed2_c 143 7 16 db ob wb b1 b2 v d.cells st r d.salt sm.s W p101 (h1.kept g (by simp)) (h2.kept g (by simp)) (not_of h1.lt l1 l2 l3) (not_of h2.lt l1 l2 l3) t rfl
set_option maxHeartbeats 8000000 in
set_option maxRecDepth 100000 in
theorem ly_cookie (w : World) (b1 b2 : Nat) (h1 : Has w b1 [.int .i64 (32 : Nat)] 3) (h2 : Has w b2 [fv 134] 176) : LayC w .cookie 166 #[pv b2, pv b1] := by
  refine ⟨en119, fun W db ob wb v d st r g l1 l2 l3 t fi sm => ?_⟩
  show Calls Tryz.prog 166 #[pv db, pv ob, pv b2, pv b1] W _
  exact fixed2_c 134 3 32 db ob wb b1 b2 v d.cells st r d.cookie sm.c W p90 (h1.kept g (by simp)) (h2.kept g (by simp)) (not_of h1.lt l1 l2 l3) (not_of h2.lt l1 l2 l3) t rfl
set_option maxHeartbeats 8000000 in
set_option maxRecDepth 100000 in
theorem ly_tag (w : World) (b1 b2 : Nat) (h1 : Has w b1 [.int .i64 (32 : Nat)] 3) (h2 : Has w b2 [fv 138] 176) : LayC w .tag 166 #[pv b2, pv b1] := by
  refine ⟨en119, fun W db ob wb v d st r g l1 l2 l3 t fi sm => ?_⟩
  show Calls Tryz.prog 166 #[pv db, pv ob, pv b2, pv b1] W _
  exact fixed2_c 138 14 32 db ob wb b1 b2 v d.cells st r d.tag sm.t W p95 (h1.kept g (by simp)) (h2.kept g (by simp)) (not_of h1.lt l1 l2 l3) (not_of h2.lt l1 l2 l3) t rfl
set_option maxHeartbeats 8000000 in
set_option maxRecDepth 100000 in
theorem ly_epoch (w : World) (b1 : Nat) (h1 : Has w b1 [fv 133] 179) : LayC w .epoch 170 #[pv b1] := by
  refine ⟨en124, fun W db ob wb v d st r g l1 l2 l3 t fi sm => ?_⟩
  show Calls Tryz.prog 170 #[pv db, pv ob, pv b1] W _
  exact long2_c 133 2 db ob wb b1 v d.cells st r d.epoch fi.e W p89 (h1.kept g (by simp)) (not_of h1.lt l1 l2 l3) t rfl
set_option maxHeartbeats 8000000 in
set_option maxRecDepth 100000 in
theorem ly_session (w : World) (b1 : Nat) (h1 : Has w b1 [fv 139] 179) : LayC w .session 170 #[pv b1] := by
  refine ⟨en124, fun W db ob wb v d st r g l1 l2 l3 t fi sm => ?_⟩
  show Calls Tryz.prog 170 #[pv db, pv ob, pv b1] W _
  exact long2_c 139 5 db ob wb b1 v d.cells st r d.session fi.s W p96 (h1.kept g (by simp)) (not_of h1.lt l1 l2 l3) t rfl
set_option maxHeartbeats 8000000 in
set_option maxRecDepth 100000 in
theorem ly_seq (w : World) (b1 : Nat) (h1 : Has w b1 [fv 144] 179) : LayC w .seq 170 #[pv b1] := by
  refine ⟨en124, fun W db ob wb v d st r g l1 l2 l3 t fi sm => ?_⟩
  show Calls Tryz.prog 170 #[pv db, pv ob, pv b1] W _
  exact long2_c 144 8 db ob wb b1 v d.cells st r d.seq fi.q W p102 (h1.kept g (by simp)) (not_of h1.lt l1 l2 l3) t rfl
set_option maxHeartbeats 8000000 in
set_option maxRecDepth 100000 in
theorem ly_thr (w : World) (b1 : Nat) (h1 : Has w b1 [fv 146] 181) : LayC w .thr 173 #[pv b1] := by
  refine ⟨en130, fun W db ob wb v d st r g l1 l2 l3 t fi sm => ?_⟩
  show Calls Tryz.prog 173 #[pv db, pv ob, pv b1] W _
  exact lever2_c 146 9 db ob wb b1 v d.cells st r d.thr fi.h W p104 (h1.kept g (by simp)) (not_of h1.lt l1 l2 l3) t rfl
set_option maxHeartbeats 8000000 in
set_option maxRecDepth 100000 in
theorem ly_turn (w : World) (b1 : Nat) (h1 : Has w b1 [fv 147] 181) : LayC w .turn 173 #[pv b1] := by
  refine ⟨en130, fun W db ob wb v d st r g l1 l2 l3 t fi sm => ?_⟩
  show Calls Tryz.prog 173 #[pv db, pv ob, pv b1] W _
  exact lever2_c 147 10 db ob wb b1 v d.cells st r d.turn fi.t W p105 (h1.kept g (by simp)) (not_of h1.lt l1 l2 l3) t rfl
set_option maxHeartbeats 8000000 in
set_option maxRecDepth 100000 in
theorem ly_player (w : World) : LayC w .player 142 #[] := by
  refine ⟨en99, fun W db ob wb v d st r g l1 l2 l3 t fi sm => ?_⟩
  show Calls Tryz.prog 142 #[pv db, pv ob] W _
  exact player2_c db ob wb v d.cells st r d.player fi.p W t rfl
set_option maxHeartbeats 8000000 in
set_option maxRecDepth 100000 in
theorem ly_name (w : World) : LayC w .name 137 #[] := by
  refine ⟨en93, fun W db ob wb v d st r g l1 l2 l3 t fi sm => ?_⟩
  show Calls Tryz.prog 137 #[pv db, pv ob] W _
  exact name2_c db ob wb v d.cells st r d.name sm.m W t rfl
set_option maxHeartbeats 8000000 in
set_option maxRecDepth 100000 in
theorem ly_view (w : World) : LayC w .view 152 #[] := by
  refine ⟨en110, fun W db ob wb v d st r g l1 l2 l3 t fi sm => ?_⟩
  show Calls Tryz.prog 152 #[pv db, pv ob] W _
  exact view2_c db ob wb v d.cells st r d.data sm.dt W t rfl
set_option maxHeartbeats 8000000 in
set_option maxRecDepth 100000 in
theorem ly_flags (w : World) : LayC w .flags 149 #[] := by
  refine ⟨en107, fun W db ob wb v d st r g l1 l2 l3 t fi sm => ?_⟩
  show Calls Tryz.prog 149 #[pv db, pv ob] W _
  exact flags2_c db ob wb v d.cells st r d.fire d.boost W t rfl rfl
set_option maxHeartbeats 8000000 in
set_option maxRecDepth 100000 in
theorem ly_zeros (w : World) (zb : Nat) (hz : Has w zb [.string (ba zero76)] 9) : LayC w .zeros 131 #[pv zb] := by
  refine ⟨en87, fun W db ob wb v d st r g l1 l2 l3 t fi sm => ?_⟩
  show Calls Tryz.prog 131 #[pv db, pv ob, pv zb] W _
  have := zeros2_c db ob wb zb v d.cells st r (ba zero76) (by decide) W (hz.kept g (by simp)) (not_of hz.lt l1 l2 l3) t
  rw [show sl (ba zero76) = zero76 from sl_mk _] at this
  exact this

set_option maxRecDepth 100000 in
theorem under57 : ∃ d, Tryz.prog.underlying 124 = some d ∧ d.isRow = true := ⟨_, Tryz.underlying124, rfl⟩
set_option maxRecDepth 100000 in
theorem info57 : (Tryz.prog.info? 124).map (·.size) = some 2 := by kernel_rfl
abbrev fc (n : Nat) (c : Array Value) : Value := .func (.func n) #[] c
set_option maxRecDepth 100000 in
theorem hs1 (w : World) (x : Obj) : (w.alloc x).heap.size = w.heap.size + 1 := by simp
set_option maxRecDepth 100000 in
theorem three (w : World) (a b c : Array Value) (s t u : TypeId) :
    Has (((w.alloc (.cells a s)).alloc (.cells b t)).alloc (.cells c u)) w.heap.size a.toList s ∧ Has (((w.alloc (.cells a s)).alloc (.cells b t)).alloc (.cells c u)) (w.heap.size + 1) b.toList t ∧ Has (((w.alloc (.cells a s)).alloc (.cells b t)).alloc (.cells c u)) (w.heap.size + 1 + 1) c.toList u ∧ w.grownBy (((w.alloc (.cells a s)).alloc (.cells b t)).alloc (.cells c u)) none := by
  refine ⟨((Has.newA w a s).alloc _).alloc _, ?_, ?_, ((World.grownBy_alloc _ _ _).trans (World.grownBy_alloc _ _ _)).trans (World.grownBy_alloc _ _ _)⟩
  · have := (Has.newA (w.alloc (.cells a s)) b t).alloc (.cells c u)
    rw [hs1] at this; exact this
  · have := Has.newA ((w.alloc (.cells a s)).alloc (.cells b t)) c u
    rw [hs1, hs1] at this; exact this
set_option maxRecDepth 100000 in
theorem two (w : World) (a b : Array Value) (s t : TypeId) :
    Has ((w.alloc (.cells a s)).alloc (.cells b t)) w.heap.size a.toList s ∧ Has ((w.alloc (.cells a s)).alloc (.cells b t)) (w.heap.size + 1) b.toList t ∧ w.grownBy ((w.alloc (.cells a s)).alloc (.cells b t)) none := by
  refine ⟨(Has.newA w a s).alloc _, ?_, (World.grownBy_alloc _ _ _).trans (World.grownBy_alloc _ _ _)⟩
  have := Has.newA (w.alloc (.cells a s)) b t
  rw [hs1] at this; exact this
abbrev MF : Prop := ∀ (fn : Fn) (first cap : Array Value) (w : World), (Instr.makeFunc fn first cap).run Tryz.prog w = .ok (.func fn first cap) w
set_option maxHeartbeats 8000000 in
set_option maxRecDepth 100000 in
theorem fixed_c (n : Int) (pl : Nat) (w : World) :
    Calls Tryz.prog 126 #[.int .i64 n, fv pl] w fun e w' => ∃ b1 b2, e = .returned (.agg #[fc 165 #[pv b1, pv b2], fc 166 #[pv b2, pv b1]]) ∧ Has w' b1 [.int .i64 n] 3 ∧ Has w' b2 [fv pl] 176 ∧ w.grownBy w' none := by
  have hmf : MF := fun _ _ _ _ => rfl
  obtain ⟨d, hd, hr⟩ := under57
  go_enter Tryz.func126, Tryz.ntmps126
  go_wp2
  obtain ⟨h1, h2, h3, g⟩ := three w #[.int .i64 n] #[fv pl] #[fc 165 #[pv w.heap.size, pv (w.heap.size + 1)], fc 166 #[pv (w.heap.size + 1), pv w.heap.size]] 3 176 124
  exact ret_cell rfl rfl h3 hd hr info57 rfl ⟨w.heap.size, w.heap.size + 1, rfl, h1, h2, g⟩
set_option maxHeartbeats 8000000 in
set_option maxRecDepth 100000 in
theorem long_c (pl : Nat) (w : World) :
    Calls Tryz.prog 132 #[fv pl] w fun e w' => ∃ b1, e = .returned (.agg #[fc 169 #[pv b1], fc 170 #[pv b1]]) ∧ Has w' b1 [fv pl] 179 ∧ w.grownBy w' none := by
  have hmf : MF := fun _ _ _ _ => rfl
  obtain ⟨d, hd, hr⟩ := under57
  go_enter Tryz.func132, Tryz.ntmps132
  go_wp2
  obtain ⟨h1, h3, g⟩ := two w #[fv pl] #[fc 169 #[pv w.heap.size], fc 170 #[pv w.heap.size]] 179 124
  exact ret_cell rfl rfl h3 hd hr info57 rfl ⟨w.heap.size, rfl, h1, g⟩
set_option maxHeartbeats 8000000 in
set_option maxRecDepth 100000 in
theorem lever_c (pl : Nat) (w : World) :
    Calls Tryz.prog 145 #[fv pl] w fun e w' => ∃ b1, e = .returned (.agg #[fc 171 #[pv b1], fc 173 #[pv b1]]) ∧ Has w' b1 [fv pl] 181 ∧ w.grownBy w' none := by
  have hmf : MF := fun _ _ _ _ => rfl
  obtain ⟨d, hd, hr⟩ := under57
  go_enter Tryz.func145, Tryz.ntmps145
  go_wp2
  obtain ⟨h1, h3, g⟩ := two w #[fv pl] #[fc 171 #[pv w.heap.size], fc 173 #[pv w.heap.size]] 181 124
  exact ret_cell rfl rfl h3 hd hr info57 rfl ⟨w.heap.size, rfl, h1, g⟩
/-- a function that makes a field -/
def Makes (F : Nat) (f : Fd) : Prop := ∀ w : World, Calls Tryz.prog F #[] w fun e w' => ∃ vt vl, e = .returned (.agg #[vt, vl]) ∧ FieldC w' f vt vl ∧ w.grownBy w' none
set_option maxHeartbeats 8000000 in
set_option maxRecDepth 100000 in
theorem mk_nonce : Makes 89 .nonce := fun w => by
  obtain ⟨d, hd, hr⟩ := under57
  go_enter Tryz.func89, Tryz.ntmps89
  go_wp2_with fail
  refine (fixed_c 16 127 _).mono ?_
  rintro e w2 ⟨b1, b2, rfl, h1, h2, g⟩
  have g3 := g
  have h0 : Has w2 w.heap.size [.nilFunc, .nilFunc] 124 := (Has.newA w #[.nilFunc, .nilFunc] 124).kept g (by simp)
  have hne : b1 ≠ w.heap.size ∧ b2 ≠ w.heap.size := ⟨fun e => (by rw [e] at h1; have := h0.symm.trans h1; simp at this), fun e => (by rw [e] at h2; have := h0.symm.trans h2; simp at this)⟩
  have c0 : w2.cell? ⟨w.heap.size, 0, none⟩ = some .nilFunc := h0.cellv 0 _ rfl
  have c1 : w2.cell? ⟨w.heap.size, 1, none⟩ = some .nilFunc := h0.cellv 1 _ rfl
  have z0 : w2.frozen? ⟨w.heap.size, 0, none⟩ = false := h0.frozen 0
  have z1 : w2.frozen? ⟨w.heap.size, 1, none⟩ = false := h0.frozen 1
  have HE : Keep (Has ((w2.setCell ⟨w.heap.size, 0, none⟩ (fc 165 #[pv b1, pv b2])).setCell ⟨w.heap.size, 1, none⟩ (fc 166 #[pv b2, pv b1])) w.heap.size [fc 165 #[pv b1, pv b2], fc 166 #[pv b2, pv b1]] 124 ∧ w.grownBy ((w2.setCell ⟨w.heap.size, 0, none⟩ (fc 165 #[pv b1, pv b2])).setCell ⟨w.heap.size, 1, none⟩ (fc 166 #[pv b2, pv b1])) none ∧ FieldC ((w2.setCell ⟨w.heap.size, 0, none⟩ (fc 165 #[pv b1, pv b2])).setCell ⟨w.heap.size, 1, none⟩ (fc 166 #[pv b2, pv b1])) .nonce (fc 165 #[pv b1, pv b2]) (fc 166 #[pv b2, pv b1])) := by
    have g5 : w2.grownBy ((w2.setCell ⟨w.heap.size, 0, none⟩ (fc 165 #[pv b1, pv b2])).setCell ⟨w.heap.size, 1, none⟩ (fc 166 #[pv b2, pv b1])) (some w.heap.size) := (gr_set _ _ _ _).trans (gr_set _ _ _ _)
    refine ⟨(h0.setCell 0 (fc 165 #[pv b1, pv b2])).setCell 1 (fc 166 #[pv b2, pv b1]), gr_new ((World.grownBy_alloc w (.cells #[.nilFunc, .nilFunc] 124) none).trans g) g5 (Nat.le_refl _), 165, #[pv b1, pv b2], 166, #[pv b2, pv b1], rfl, rfl, ?_, ?_⟩
    · exact tk_nonce _ b1 b2 (h1.kept g5 (by simp; omega)) (h2.kept g5 (by simp; omega))
    · exact ly_nonce _ b1 b2 (h1.kept g5 (by simp; omega)) (h2.kept g5 (by simp; omega))
  clear h0 hne g g3 h1 h2
  go_wp2
  exact ret_cell rfl rfl HE.out.1 hd hr info57 rfl ⟨_, _, rfl, HE.out.2.2, HE.out.2.1⟩
set_option maxHeartbeats 8000000 in
set_option maxRecDepth 100000 in
theorem mk_cookie : Makes 92 .cookie := fun w => by
  obtain ⟨d, hd, hr⟩ := under57
  go_enter Tryz.func92, Tryz.ntmps92
  go_wp2_with fail
  refine (fixed_c 32 134 _).mono ?_
  rintro e w2 ⟨b1, b2, rfl, h1, h2, g⟩
  have g3 := g
  have h0 : Has w2 w.heap.size [.nilFunc, .nilFunc] 124 := (Has.newA w #[.nilFunc, .nilFunc] 124).kept g (by simp)
  have hne : b1 ≠ w.heap.size ∧ b2 ≠ w.heap.size := ⟨fun e => (by rw [e] at h1; have := h0.symm.trans h1; simp at this), fun e => (by rw [e] at h2; have := h0.symm.trans h2; simp at this)⟩
  have c0 : w2.cell? ⟨w.heap.size, 0, none⟩ = some .nilFunc := h0.cellv 0 _ rfl
  have c1 : w2.cell? ⟨w.heap.size, 1, none⟩ = some .nilFunc := h0.cellv 1 _ rfl
  have z0 : w2.frozen? ⟨w.heap.size, 0, none⟩ = false := h0.frozen 0
  have z1 : w2.frozen? ⟨w.heap.size, 1, none⟩ = false := h0.frozen 1
  have HE : Keep (Has ((w2.setCell ⟨w.heap.size, 0, none⟩ (fc 165 #[pv b1, pv b2])).setCell ⟨w.heap.size, 1, none⟩ (fc 166 #[pv b2, pv b1])) w.heap.size [fc 165 #[pv b1, pv b2], fc 166 #[pv b2, pv b1]] 124 ∧ w.grownBy ((w2.setCell ⟨w.heap.size, 0, none⟩ (fc 165 #[pv b1, pv b2])).setCell ⟨w.heap.size, 1, none⟩ (fc 166 #[pv b2, pv b1])) none ∧ FieldC ((w2.setCell ⟨w.heap.size, 0, none⟩ (fc 165 #[pv b1, pv b2])).setCell ⟨w.heap.size, 1, none⟩ (fc 166 #[pv b2, pv b1])) .cookie (fc 165 #[pv b1, pv b2]) (fc 166 #[pv b2, pv b1])) := by
    have g5 : w2.grownBy ((w2.setCell ⟨w.heap.size, 0, none⟩ (fc 165 #[pv b1, pv b2])).setCell ⟨w.heap.size, 1, none⟩ (fc 166 #[pv b2, pv b1])) (some w.heap.size) := (gr_set _ _ _ _).trans (gr_set _ _ _ _)
    refine ⟨(h0.setCell 0 (fc 165 #[pv b1, pv b2])).setCell 1 (fc 166 #[pv b2, pv b1]), gr_new ((World.grownBy_alloc w (.cells #[.nilFunc, .nilFunc] 124) none).trans g) g5 (Nat.le_refl _), 165, #[pv b1, pv b2], 166, #[pv b2, pv b1], rfl, rfl, ?_, ?_⟩
    · exact tk_cookie _ b1 b2 (h1.kept g5 (by simp; omega)) (h2.kept g5 (by simp; omega))
    · exact ly_cookie _ b1 b2 (h1.kept g5 (by simp; omega)) (h2.kept g5 (by simp; omega))
  clear h0 hne g g3 h1 h2
  go_wp2
  exact ret_cell rfl rfl HE.out.1 hd hr info57 rfl ⟨_, _, rfl, HE.out.2.2, HE.out.2.1⟩
set_option maxHeartbeats 8000000 in
set_option maxRecDepth 100000 in
theorem mk_tag : Makes 94 .tag := fun w => by
  obtain ⟨d, hd, hr⟩ := under57
  go_enter Tryz.func94, Tryz.ntmps94
  go_wp2_with fail
  refine (fixed_c 32 138 _).mono ?_
  rintro e w2 ⟨b1, b2, rfl, h1, h2, g⟩
  have g3 := g
  have h0 : Has w2 w.heap.size [.nilFunc, .nilFunc] 124 := (Has.newA w #[.nilFunc, .nilFunc] 124).kept g (by simp)
  have hne : b1 ≠ w.heap.size ∧ b2 ≠ w.heap.size := ⟨fun e => (by rw [e] at h1; have := h0.symm.trans h1; simp at this), fun e => (by rw [e] at h2; have := h0.symm.trans h2; simp at this)⟩
  have c0 : w2.cell? ⟨w.heap.size, 0, none⟩ = some .nilFunc := h0.cellv 0 _ rfl
  have c1 : w2.cell? ⟨w.heap.size, 1, none⟩ = some .nilFunc := h0.cellv 1 _ rfl
  have z0 : w2.frozen? ⟨w.heap.size, 0, none⟩ = false := h0.frozen 0
  have z1 : w2.frozen? ⟨w.heap.size, 1, none⟩ = false := h0.frozen 1
  have HE : Keep (Has ((w2.setCell ⟨w.heap.size, 0, none⟩ (fc 165 #[pv b1, pv b2])).setCell ⟨w.heap.size, 1, none⟩ (fc 166 #[pv b2, pv b1])) w.heap.size [fc 165 #[pv b1, pv b2], fc 166 #[pv b2, pv b1]] 124 ∧ w.grownBy ((w2.setCell ⟨w.heap.size, 0, none⟩ (fc 165 #[pv b1, pv b2])).setCell ⟨w.heap.size, 1, none⟩ (fc 166 #[pv b2, pv b1])) none ∧ FieldC ((w2.setCell ⟨w.heap.size, 0, none⟩ (fc 165 #[pv b1, pv b2])).setCell ⟨w.heap.size, 1, none⟩ (fc 166 #[pv b2, pv b1])) .tag (fc 165 #[pv b1, pv b2]) (fc 166 #[pv b2, pv b1])) := by
    have g5 : w2.grownBy ((w2.setCell ⟨w.heap.size, 0, none⟩ (fc 165 #[pv b1, pv b2])).setCell ⟨w.heap.size, 1, none⟩ (fc 166 #[pv b2, pv b1])) (some w.heap.size) := (gr_set _ _ _ _).trans (gr_set _ _ _ _)
    refine ⟨(h0.setCell 0 (fc 165 #[pv b1, pv b2])).setCell 1 (fc 166 #[pv b2, pv b1]), gr_new ((World.grownBy_alloc w (.cells #[.nilFunc, .nilFunc] 124) none).trans g) g5 (Nat.le_refl _), 165, #[pv b1, pv b2], 166, #[pv b2, pv b1], rfl, rfl, ?_, ?_⟩
    · exact tk_tag _ b1 b2 (h1.kept g5 (by simp; omega)) (h2.kept g5 (by simp; omega))
    · exact ly_tag _ b1 b2 (h1.kept g5 (by simp; omega)) (h2.kept g5 (by simp; omega))
  clear h0 hne g g3 h1 h2
  go_wp2
  exact ret_cell rfl rfl HE.out.1 hd hr info57 rfl ⟨_, _, rfl, HE.out.2.2, HE.out.2.1⟩
set_option maxHeartbeats 8000000 in
set_option maxRecDepth 100000 in
theorem mk_salt : Makes 97 .salt := fun w => by
  obtain ⟨d, hd, hr⟩ := under57
  go_enter Tryz.func97, Tryz.ntmps97
  go_wp2_with fail
  refine (fixed_c 16 143 _).mono ?_
  rintro e w2 ⟨b1, b2, rfl, h1, h2, g⟩
  have g3 := g
  have h0 : Has w2 w.heap.size [.nilFunc, .nilFunc] 124 := (Has.newA w #[.nilFunc, .nilFunc] 124).kept g (by simp)
  have hne : b1 ≠ w.heap.size ∧ b2 ≠ w.heap.size := ⟨fun e => (by rw [e] at h1; have := h0.symm.trans h1; simp at this), fun e => (by rw [e] at h2; have := h0.symm.trans h2; simp at this)⟩
  have c0 : w2.cell? ⟨w.heap.size, 0, none⟩ = some .nilFunc := h0.cellv 0 _ rfl
  have c1 : w2.cell? ⟨w.heap.size, 1, none⟩ = some .nilFunc := h0.cellv 1 _ rfl
  have z0 : w2.frozen? ⟨w.heap.size, 0, none⟩ = false := h0.frozen 0
  have z1 : w2.frozen? ⟨w.heap.size, 1, none⟩ = false := h0.frozen 1
  have HE : Keep (Has ((w2.setCell ⟨w.heap.size, 0, none⟩ (fc 165 #[pv b1, pv b2])).setCell ⟨w.heap.size, 1, none⟩ (fc 166 #[pv b2, pv b1])) w.heap.size [fc 165 #[pv b1, pv b2], fc 166 #[pv b2, pv b1]] 124 ∧ w.grownBy ((w2.setCell ⟨w.heap.size, 0, none⟩ (fc 165 #[pv b1, pv b2])).setCell ⟨w.heap.size, 1, none⟩ (fc 166 #[pv b2, pv b1])) none ∧ FieldC ((w2.setCell ⟨w.heap.size, 0, none⟩ (fc 165 #[pv b1, pv b2])).setCell ⟨w.heap.size, 1, none⟩ (fc 166 #[pv b2, pv b1])) .salt (fc 165 #[pv b1, pv b2]) (fc 166 #[pv b2, pv b1])) := by
    have g5 : w2.grownBy ((w2.setCell ⟨w.heap.size, 0, none⟩ (fc 165 #[pv b1, pv b2])).setCell ⟨w.heap.size, 1, none⟩ (fc 166 #[pv b2, pv b1])) (some w.heap.size) := (gr_set _ _ _ _).trans (gr_set _ _ _ _)
    refine ⟨(h0.setCell 0 (fc 165 #[pv b1, pv b2])).setCell 1 (fc 166 #[pv b2, pv b1]), gr_new ((World.grownBy_alloc w (.cells #[.nilFunc, .nilFunc] 124) none).trans g) g5 (Nat.le_refl _), 165, #[pv b1, pv b2], 166, #[pv b2, pv b1], rfl, rfl, ?_, ?_⟩
    · exact tk_salt _ b1 b2 (h1.kept g5 (by simp; omega)) (h2.kept g5 (by simp; omega))
    · exact ly_salt _ b1 b2 (h1.kept g5 (by simp; omega)) (h2.kept g5 (by simp; omega))
  clear h0 hne g g3 h1 h2
  go_wp2
  exact ret_cell rfl rfl HE.out.1 hd hr info57 rfl ⟨_, _, rfl, HE.out.2.2, HE.out.2.1⟩
set_option maxHeartbeats 8000000 in
set_option maxRecDepth 100000 in
theorem mk_epoch : Makes 91 .epoch := fun w => by
  obtain ⟨d, hd, hr⟩ := under57
  go_enter Tryz.func91, Tryz.ntmps91
  go_wp2_with fail
  refine (long_c 133 _).mono ?_
  rintro e w2 ⟨b1, rfl, h1, g⟩
  have g3 := g
  have h0 : Has w2 w.heap.size [.nilFunc, .nilFunc] 124 := (Has.newA w #[.nilFunc, .nilFunc] 124).kept g (by simp)
  have hne : b1 ≠ w.heap.size := fun e => (by rw [e] at h1; have := h0.symm.trans h1; simp at this)
  have c0 : w2.cell? ⟨w.heap.size, 0, none⟩ = some .nilFunc := h0.cellv 0 _ rfl
  have c1 : w2.cell? ⟨w.heap.size, 1, none⟩ = some .nilFunc := h0.cellv 1 _ rfl
  have z0 : w2.frozen? ⟨w.heap.size, 0, none⟩ = false := h0.frozen 0
  have z1 : w2.frozen? ⟨w.heap.size, 1, none⟩ = false := h0.frozen 1
  have HE : Keep (Has ((w2.setCell ⟨w.heap.size, 0, none⟩ (fc 169 #[pv b1])).setCell ⟨w.heap.size, 1, none⟩ (fc 170 #[pv b1])) w.heap.size [fc 169 #[pv b1], fc 170 #[pv b1]] 124 ∧ w.grownBy ((w2.setCell ⟨w.heap.size, 0, none⟩ (fc 169 #[pv b1])).setCell ⟨w.heap.size, 1, none⟩ (fc 170 #[pv b1])) none ∧ FieldC ((w2.setCell ⟨w.heap.size, 0, none⟩ (fc 169 #[pv b1])).setCell ⟨w.heap.size, 1, none⟩ (fc 170 #[pv b1])) .epoch (fc 169 #[pv b1]) (fc 170 #[pv b1])) := by
    have g5 : w2.grownBy ((w2.setCell ⟨w.heap.size, 0, none⟩ (fc 169 #[pv b1])).setCell ⟨w.heap.size, 1, none⟩ (fc 170 #[pv b1])) (some w.heap.size) := (gr_set _ _ _ _).trans (gr_set _ _ _ _)
    refine ⟨(h0.setCell 0 (fc 169 #[pv b1])).setCell 1 (fc 170 #[pv b1]), gr_new ((World.grownBy_alloc w (.cells #[.nilFunc, .nilFunc] 124) none).trans g) g5 (Nat.le_refl _), 169, #[pv b1], 170, #[pv b1], rfl, rfl, ?_, ?_⟩
    · exact tk_epoch _ b1 (h1.kept g5 (by simp; omega))
    · exact ly_epoch _ b1 (h1.kept g5 (by simp; omega))
  clear h0 hne g g3 h1
  go_wp2
  exact ret_cell rfl rfl HE.out.1 hd hr info57 rfl ⟨_, _, rfl, HE.out.2.2, HE.out.2.1⟩
set_option maxHeartbeats 8000000 in
set_option maxRecDepth 100000 in
theorem mk_session : Makes 95 .session := fun w => by
  obtain ⟨d, hd, hr⟩ := under57
  go_enter Tryz.func95, Tryz.ntmps95
  go_wp2_with fail
  refine (long_c 139 _).mono ?_
  rintro e w2 ⟨b1, rfl, h1, g⟩
  have g3 := g
  have h0 : Has w2 w.heap.size [.nilFunc, .nilFunc] 124 := (Has.newA w #[.nilFunc, .nilFunc] 124).kept g (by simp)
  have hne : b1 ≠ w.heap.size := fun e => (by rw [e] at h1; have := h0.symm.trans h1; simp at this)
  have c0 : w2.cell? ⟨w.heap.size, 0, none⟩ = some .nilFunc := h0.cellv 0 _ rfl
  have c1 : w2.cell? ⟨w.heap.size, 1, none⟩ = some .nilFunc := h0.cellv 1 _ rfl
  have z0 : w2.frozen? ⟨w.heap.size, 0, none⟩ = false := h0.frozen 0
  have z1 : w2.frozen? ⟨w.heap.size, 1, none⟩ = false := h0.frozen 1
  have HE : Keep (Has ((w2.setCell ⟨w.heap.size, 0, none⟩ (fc 169 #[pv b1])).setCell ⟨w.heap.size, 1, none⟩ (fc 170 #[pv b1])) w.heap.size [fc 169 #[pv b1], fc 170 #[pv b1]] 124 ∧ w.grownBy ((w2.setCell ⟨w.heap.size, 0, none⟩ (fc 169 #[pv b1])).setCell ⟨w.heap.size, 1, none⟩ (fc 170 #[pv b1])) none ∧ FieldC ((w2.setCell ⟨w.heap.size, 0, none⟩ (fc 169 #[pv b1])).setCell ⟨w.heap.size, 1, none⟩ (fc 170 #[pv b1])) .session (fc 169 #[pv b1]) (fc 170 #[pv b1])) := by
    have g5 : w2.grownBy ((w2.setCell ⟨w.heap.size, 0, none⟩ (fc 169 #[pv b1])).setCell ⟨w.heap.size, 1, none⟩ (fc 170 #[pv b1])) (some w.heap.size) := (gr_set _ _ _ _).trans (gr_set _ _ _ _)
    refine ⟨(h0.setCell 0 (fc 169 #[pv b1])).setCell 1 (fc 170 #[pv b1]), gr_new ((World.grownBy_alloc w (.cells #[.nilFunc, .nilFunc] 124) none).trans g) g5 (Nat.le_refl _), 169, #[pv b1], 170, #[pv b1], rfl, rfl, ?_, ?_⟩
    · exact tk_session _ b1 (h1.kept g5 (by simp; omega))
    · exact ly_session _ b1 (h1.kept g5 (by simp; omega))
  clear h0 hne g g3 h1
  go_wp2
  exact ret_cell rfl rfl HE.out.1 hd hr info57 rfl ⟨_, _, rfl, HE.out.2.2, HE.out.2.1⟩
set_option maxHeartbeats 8000000 in
set_option maxRecDepth 100000 in
theorem mk_seq : Makes 98 .seq := fun w => by
  obtain ⟨d, hd, hr⟩ := under57
  go_enter Tryz.func98, Tryz.ntmps98
  go_wp2_with fail
  refine (long_c 144 _).mono ?_
  rintro e w2 ⟨b1, rfl, h1, g⟩
  have g3 := g
  have h0 : Has w2 w.heap.size [.nilFunc, .nilFunc] 124 := (Has.newA w #[.nilFunc, .nilFunc] 124).kept g (by simp)
  have hne : b1 ≠ w.heap.size := fun e => (by rw [e] at h1; have := h0.symm.trans h1; simp at this)
  have c0 : w2.cell? ⟨w.heap.size, 0, none⟩ = some .nilFunc := h0.cellv 0 _ rfl
  have c1 : w2.cell? ⟨w.heap.size, 1, none⟩ = some .nilFunc := h0.cellv 1 _ rfl
  have z0 : w2.frozen? ⟨w.heap.size, 0, none⟩ = false := h0.frozen 0
  have z1 : w2.frozen? ⟨w.heap.size, 1, none⟩ = false := h0.frozen 1
  have HE : Keep (Has ((w2.setCell ⟨w.heap.size, 0, none⟩ (fc 169 #[pv b1])).setCell ⟨w.heap.size, 1, none⟩ (fc 170 #[pv b1])) w.heap.size [fc 169 #[pv b1], fc 170 #[pv b1]] 124 ∧ w.grownBy ((w2.setCell ⟨w.heap.size, 0, none⟩ (fc 169 #[pv b1])).setCell ⟨w.heap.size, 1, none⟩ (fc 170 #[pv b1])) none ∧ FieldC ((w2.setCell ⟨w.heap.size, 0, none⟩ (fc 169 #[pv b1])).setCell ⟨w.heap.size, 1, none⟩ (fc 170 #[pv b1])) .seq (fc 169 #[pv b1]) (fc 170 #[pv b1])) := by
    have g5 : w2.grownBy ((w2.setCell ⟨w.heap.size, 0, none⟩ (fc 169 #[pv b1])).setCell ⟨w.heap.size, 1, none⟩ (fc 170 #[pv b1])) (some w.heap.size) := (gr_set _ _ _ _).trans (gr_set _ _ _ _)
    refine ⟨(h0.setCell 0 (fc 169 #[pv b1])).setCell 1 (fc 170 #[pv b1]), gr_new ((World.grownBy_alloc w (.cells #[.nilFunc, .nilFunc] 124) none).trans g) g5 (Nat.le_refl _), 169, #[pv b1], 170, #[pv b1], rfl, rfl, ?_, ?_⟩
    · exact tk_seq _ b1 (h1.kept g5 (by simp; omega))
    · exact ly_seq _ b1 (h1.kept g5 (by simp; omega))
  clear h0 hne g g3 h1
  go_wp2
  exact ret_cell rfl rfl HE.out.1 hd hr info57 rfl ⟨_, _, rfl, HE.out.2.2, HE.out.2.1⟩
set_option maxHeartbeats 8000000 in
set_option maxRecDepth 100000 in
theorem mk_thr : Makes 99 .thr := fun w => by
  obtain ⟨d, hd, hr⟩ := under57
  go_enter Tryz.func99, Tryz.ntmps99
  go_wp2_with fail
  refine (lever_c 146 _).mono ?_
  rintro e w2 ⟨b1, rfl, h1, g⟩
  have g3 := g
  have h0 : Has w2 w.heap.size [.nilFunc, .nilFunc] 124 := (Has.newA w #[.nilFunc, .nilFunc] 124).kept g (by simp)
  have hne : b1 ≠ w.heap.size := fun e => (by rw [e] at h1; have := h0.symm.trans h1; simp at this)
  have c0 : w2.cell? ⟨w.heap.size, 0, none⟩ = some .nilFunc := h0.cellv 0 _ rfl
  have c1 : w2.cell? ⟨w.heap.size, 1, none⟩ = some .nilFunc := h0.cellv 1 _ rfl
  have z0 : w2.frozen? ⟨w.heap.size, 0, none⟩ = false := h0.frozen 0
  have z1 : w2.frozen? ⟨w.heap.size, 1, none⟩ = false := h0.frozen 1
  have HE : Keep (Has ((w2.setCell ⟨w.heap.size, 0, none⟩ (fc 171 #[pv b1])).setCell ⟨w.heap.size, 1, none⟩ (fc 173 #[pv b1])) w.heap.size [fc 171 #[pv b1], fc 173 #[pv b1]] 124 ∧ w.grownBy ((w2.setCell ⟨w.heap.size, 0, none⟩ (fc 171 #[pv b1])).setCell ⟨w.heap.size, 1, none⟩ (fc 173 #[pv b1])) none ∧ FieldC ((w2.setCell ⟨w.heap.size, 0, none⟩ (fc 171 #[pv b1])).setCell ⟨w.heap.size, 1, none⟩ (fc 173 #[pv b1])) .thr (fc 171 #[pv b1]) (fc 173 #[pv b1])) := by
    have g5 : w2.grownBy ((w2.setCell ⟨w.heap.size, 0, none⟩ (fc 171 #[pv b1])).setCell ⟨w.heap.size, 1, none⟩ (fc 173 #[pv b1])) (some w.heap.size) := (gr_set _ _ _ _).trans (gr_set _ _ _ _)
    refine ⟨(h0.setCell 0 (fc 171 #[pv b1])).setCell 1 (fc 173 #[pv b1]), gr_new ((World.grownBy_alloc w (.cells #[.nilFunc, .nilFunc] 124) none).trans g) g5 (Nat.le_refl _), 171, #[pv b1], 173, #[pv b1], rfl, rfl, ?_, ?_⟩
    · exact tk_thr _ b1 (h1.kept g5 (by simp; omega))
    · exact ly_thr _ b1 (h1.kept g5 (by simp; omega))
  clear h0 hne g g3 h1
  go_wp2
  exact ret_cell rfl rfl HE.out.1 hd hr info57 rfl ⟨_, _, rfl, HE.out.2.2, HE.out.2.1⟩
set_option maxHeartbeats 8000000 in
set_option maxRecDepth 100000 in
theorem mk_turn : Makes 100 .turn := fun w => by
  obtain ⟨d, hd, hr⟩ := under57
  go_enter Tryz.func100, Tryz.ntmps100
  go_wp2_with fail
  refine (lever_c 147 _).mono ?_
  rintro e w2 ⟨b1, rfl, h1, g⟩
  have g3 := g
  have h0 : Has w2 w.heap.size [.nilFunc, .nilFunc] 124 := (Has.newA w #[.nilFunc, .nilFunc] 124).kept g (by simp)
  have hne : b1 ≠ w.heap.size := fun e => (by rw [e] at h1; have := h0.symm.trans h1; simp at this)
  have c0 : w2.cell? ⟨w.heap.size, 0, none⟩ = some .nilFunc := h0.cellv 0 _ rfl
  have c1 : w2.cell? ⟨w.heap.size, 1, none⟩ = some .nilFunc := h0.cellv 1 _ rfl
  have z0 : w2.frozen? ⟨w.heap.size, 0, none⟩ = false := h0.frozen 0
  have z1 : w2.frozen? ⟨w.heap.size, 1, none⟩ = false := h0.frozen 1
  have HE : Keep (Has ((w2.setCell ⟨w.heap.size, 0, none⟩ (fc 171 #[pv b1])).setCell ⟨w.heap.size, 1, none⟩ (fc 173 #[pv b1])) w.heap.size [fc 171 #[pv b1], fc 173 #[pv b1]] 124 ∧ w.grownBy ((w2.setCell ⟨w.heap.size, 0, none⟩ (fc 171 #[pv b1])).setCell ⟨w.heap.size, 1, none⟩ (fc 173 #[pv b1])) none ∧ FieldC ((w2.setCell ⟨w.heap.size, 0, none⟩ (fc 171 #[pv b1])).setCell ⟨w.heap.size, 1, none⟩ (fc 173 #[pv b1])) .turn (fc 171 #[pv b1]) (fc 173 #[pv b1])) := by
    have g5 : w2.grownBy ((w2.setCell ⟨w.heap.size, 0, none⟩ (fc 171 #[pv b1])).setCell ⟨w.heap.size, 1, none⟩ (fc 173 #[pv b1])) (some w.heap.size) := (gr_set _ _ _ _).trans (gr_set _ _ _ _)
    refine ⟨(h0.setCell 0 (fc 171 #[pv b1])).setCell 1 (fc 173 #[pv b1]), gr_new ((World.grownBy_alloc w (.cells #[.nilFunc, .nilFunc] 124) none).trans g) g5 (Nat.le_refl _), 171, #[pv b1], 173, #[pv b1], rfl, rfl, ?_, ?_⟩
    · exact tk_turn _ b1 (h1.kept g5 (by simp; omega))
    · exact ly_turn _ b1 (h1.kept g5 (by simp; omega))
  clear h0 hne g g3 h1
  go_wp2
  exact ret_cell rfl rfl HE.out.1 hd hr info57 rfl ⟨_, _, rfl, HE.out.2.2, HE.out.2.1⟩
set_option maxHeartbeats 8000000 in
set_option maxRecDepth 100000 in
theorem mk_player : Makes 96 .player := fun w => by
  obtain ⟨d, hd, hr⟩ := under57
  go_enter Tryz.func96, Tryz.ntmps96
  go_wp2
  exact ret_cell rfl rfl (Has.newA w #[fv 140, fv 142] 124) hd hr info57 rfl ⟨fv 140, fv 142, rfl, ⟨140, #[], 142, #[], rfl, rfl, tk_player _, ly_player _⟩, World.grownBy_alloc _ _ _⟩
set_option maxHeartbeats 8000000 in
set_option maxRecDepth 100000 in
theorem mk_flags : Makes 101 .flags := fun w => by
  obtain ⟨d, hd, hr⟩ := under57
  go_enter Tryz.func101, Tryz.ntmps101
  go_wp2
  exact ret_cell rfl rfl (Has.newA w #[fv 148, fv 149] 124) hd hr info57 rfl ⟨fv 148, fv 149, rfl, ⟨148, #[], 149, #[], rfl, rfl, tk_flags _, ly_flags _⟩, World.grownBy_alloc _ _ _⟩
set_option maxHeartbeats 8000000 in
set_option maxRecDepth 100000 in
theorem mk_name : Makes 93 .name := fun w => by
  obtain ⟨d, hd, hr⟩ := under57
  go_enter Tryz.func93, Tryz.ntmps93
  go_wp2
  exact ret_cell rfl rfl (Has.newA w #[fv 135, fv 137] 124) hd hr info57 rfl ⟨fv 135, fv 137, rfl, ⟨135, #[], 137, #[], rfl, rfl, tk_name _, ly_name _⟩, World.grownBy_alloc _ _ _⟩
set_option maxHeartbeats 8000000 in
set_option maxRecDepth 100000 in
theorem mk_view : Makes 102 .view := fun w => by
  obtain ⟨d, hd, hr⟩ := under57
  go_enter Tryz.func102, Tryz.ntmps102
  go_wp2
  exact ret_cell rfl rfl (Has.newA w #[fv 150, fv 152] 124) hd hr info57 rfl ⟨fv 150, fv 152, rfl, ⟨150, #[], 152, #[], rfl, rfl, tk_view _, ly_view _⟩, World.grownBy_alloc _ _ _⟩
end Go.Proofs.YtkdjcknikhgfkabGreatDoor.Pk
