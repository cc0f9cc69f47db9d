import Derived.Test.YtldnpebnpbahjaaGreatDoorFB2
/- what each field's second function does; the fields -/
namespace Go.Proofs.YtldnpebnpbahjaaGreatDoor.Pk
open Go Go.RowKit

/-- its texts are no longer than that -/
structure Dg.small (d : Dg) : Prop where
  n : d.nonce.size ≤ 1099511627776
  c : d.cookie.size ≤ 1099511627776
  m : d.name.size ≤ 1099511627776
  s : d.salt.size ≤ 1099511627776
  dt : d.data.size ≤ 1099511627776
  t : d.tag.size ≤ 1099511627776
def LayC (w : World) (f : Fd) (n : Nat) (c : Array Value) : Prop :=
  Enters n ∧ ∀ (W : World) (db ob wb : Nat) (v : Value) (d : Dg) (st : WS) (r : Bool), w.grownBy W none → w.heap.size ≤ ob → w.heap.size ≤ wb → (∀ k, v.ownBlock = some k → w.heap.size ≤ k) → Lay W db ob wb v d.cells st r → d.fine → d.small →
    Calls Tryz.prog n (#[pv db, pv ob] ++ c) W fun e w' => e = .returned (.tuple #[]) ∧ ∃ v', OD W w' ob wb v (ly d f (st, r)).1 (ly d f (st, r)).2 v'
set_option maxRecDepth 100000 in
theorem LayC.kept {w w' : World} {f : Fd} {n : Nat} {c : Array Value} (h : LayC w f n c) (g : w.grownBy w' none) : LayC w' f n c :=
  ⟨h.1, fun W db ob wb v d st r gW l1 l2 l3 t => h.2 W db ob wb v d st r (g.trans gW) (Nat.le_trans g.size l1) (Nat.le_trans g.size l2) (fun k e => Nat.le_trans g.size (l3 k e)) t⟩
set_option maxRecDepth 100000 in
theorem not_of {w : World} {ob wb : Nat} {v : Value} {b : Nat} (hb : b < w.heap.size) (l1 : w.heap.size ≤ ob) (l2 : w.heap.size ≤ wb) (l3 : ∀ k, v.ownBlock = some k → w.heap.size ≤ k) : ¬ OF ob wb v b := by
  rintro (e | e | e)
  · omega
  · omega
  · have := l3 _ e; omega
/-- a field's two functions -/
def FieldC (w : World) (f : Fd) (vt vl : Value) : Prop := ∃ nt ct nl cl, vt = .func (.func nt) #[] ct ∧ vl = .func (.func nl) #[] cl ∧ TakeC w f nt ct ∧ LayC w f nl cl
set_option maxRecDepth 100000 in
theorem FieldC.kept {w w' : World} {f : Fd} {vt vl : Value} (h : FieldC w f vt vl) (g : w.grownBy w' none) : FieldC w' f vt vl := by
  obtain ⟨nt, ct, nl, cl, e1, e2, h1, h2⟩ := h
  exact ⟨nt, ct, nl, cl, e1, e2, h1.kept g, h2.kept g⟩
set_option maxRecDepth 100000 in
theorem en119 : Enters 181 := fun _ _ => by kernel_rfl
set_option maxRecDepth 100000 in
theorem en124 : Enters 186 := fun _ _ => by kernel_rfl
set_option maxRecDepth 100000 in
theorem en130 : Enters 192 := fun _ _ => by kernel_rfl
set_option maxRecDepth 100000 in
theorem en99 : Enters 147 := fun _ _ => by kernel_rfl
set_option maxRecDepth 100000 in
theorem en107 : Enters 155 := fun _ _ => by kernel_rfl
set_option maxRecDepth 100000 in
theorem en93 : Enters 141 := fun _ _ => by kernel_rfl
set_option maxRecDepth 100000 in
theorem en110 : Enters 158 := fun _ _ => by kernel_rfl
set_option maxRecDepth 100000 in
theorem en87 : Enters 135 := fun _ _ => by kernel_rfl
set_option maxHeartbeats 8000000 in
set_option maxRecDepth 100000 in
theorem ly_nonce (w : World) (b1 b2 : Nat) (h1 : Has w b1 [.int .i64 (16 : Nat)] 3) (h2 : Has w b2 [fv 131] 186) : LayC w .nonce 181 #[pv b2, pv b1] := by
  refine ⟨en119, fun W db ob wb v d st r g l1 l2 l3 t fi sm => ?_⟩
  show Calls Tryz.prog 181 #[pv db, pv ob, pv b2, pv b1] W _
  exact fixed2_c 131 1 16 db ob wb b1 b2 v d.cells st r d.nonce sm.n W p83 (h1.kept g (by simp)) (h2.kept g (by simp)) (not_of h1.lt l1 l2 l3) (not_of h2.lt l1 l2 l3) t rfl
set_option maxHeartbeats 8000000 in
set_option maxRecDepth 100000 in
theorem ly_salt (w : World) (b1 b2 : Nat) (h1 : Has w b1 [.int .i64 (16 : Nat)] 3) (h2 : Has w b2 [fv 149] 186) : LayC w .salt 181 #[pv b2, pv b1] := by
  refine ⟨en119, fun W db ob wb v d st r g l1 l2 l3 t fi sm => ?_⟩
  show Calls Tryz.prog 181 #[pv db, pv ob, pv b2, pv b1] W _
  exact fixed2_c 149 7 16 db ob wb b1 b2 v d.cells st r d.salt sm.s W p101 (h1.kept g (by simp)) (h2.kept g (by simp)) (not_of h1.lt l1 l2 l3) (not_of h2.lt l1 l2 l3) t rfl
set_option maxHeartbeats 8000000 in
set_option maxRecDepth 100000 in
theorem ly_cookie (w : World) (b1 b2 : Nat) (h1 : Has w b1 [.int .i64 (32 : Nat)] 3) (h2 : Has w b2 [fv 138] 186) : LayC w .cookie 181 #[pv b2, pv b1] := by
  refine ⟨en119, fun W db ob wb v d st r g l1 l2 l3 t fi sm => ?_⟩
  show Calls Tryz.prog 181 #[pv db, pv ob, pv b2, pv b1] W _
  exact fixed2_c 138 3 32 db ob wb b1 b2 v d.cells st r d.cookie sm.c W p90 (h1.kept g (by simp)) (h2.kept g (by simp)) (not_of h1.lt l1 l2 l3) (not_of h2.lt l1 l2 l3) t rfl
set_option maxHeartbeats 8000000 in
set_option maxRecDepth 100000 in
theorem ly_tag (w : World) (b1 b2 : Nat) (h1 : Has w b1 [.int .i64 (32 : Nat)] 3) (h2 : Has w b2 [fv 143] 186) : LayC w .tag 181 #[pv b2, pv b1] := by
  refine ⟨en119, fun W db ob wb v d st r g l1 l2 l3 t fi sm => ?_⟩
  show Calls Tryz.prog 181 #[pv db, pv ob, pv b2, pv b1] W _
  exact fixed2_c 143 14 32 db ob wb b1 b2 v d.cells st r d.tag sm.t W p95 (h1.kept g (by simp)) (h2.kept g (by simp)) (not_of h1.lt l1 l2 l3) (not_of h2.lt l1 l2 l3) t rfl
set_option maxHeartbeats 8000000 in
set_option maxRecDepth 100000 in
theorem ly_epoch (w : World) (b1 : Nat) (h1 : Has w b1 [fv 137] 191) : LayC w .epoch 186 #[pv b1] := by
  refine ⟨en124, fun W db ob wb v d st r g l1 l2 l3 t fi sm => ?_⟩
  show Calls Tryz.prog 186 #[pv db, pv ob, pv b1] W _
  exact long2_c 137 2 db ob wb b1 v d.cells st r d.epoch fi.e W p89 (h1.kept g (by simp)) (not_of h1.lt l1 l2 l3) t rfl
set_option maxHeartbeats 8000000 in
set_option maxRecDepth 100000 in
theorem ly_session (w : World) (b1 : Nat) (h1 : Has w b1 [fv 144] 191) : LayC w .session 186 #[pv b1] := by
  refine ⟨en124, fun W db ob wb v d st r g l1 l2 l3 t fi sm => ?_⟩
  show Calls Tryz.prog 186 #[pv db, pv ob, pv b1] W _
  exact long2_c 144 5 db ob wb b1 v d.cells st r d.session fi.s W p96 (h1.kept g (by simp)) (not_of h1.lt l1 l2 l3) t rfl
set_option maxHeartbeats 8000000 in
set_option maxRecDepth 100000 in
theorem ly_seq (w : World) (b1 : Nat) (h1 : Has w b1 [fv 150] 191) : LayC w .seq 186 #[pv b1] := by
  refine ⟨en124, fun W db ob wb v d st r g l1 l2 l3 t fi sm => ?_⟩
  show Calls Tryz.prog 186 #[pv db, pv ob, pv b1] W _
  exact long2_c 150 8 db ob wb b1 v d.cells st r d.seq fi.q W p102 (h1.kept g (by simp)) (not_of h1.lt l1 l2 l3) t rfl
set_option maxHeartbeats 8000000 in
set_option maxRecDepth 100000 in
theorem ly_thr (w : World) (b1 : Nat) (h1 : Has w b1 [fv 152] 194) : LayC w .thr 192 #[pv b1] := by
  refine ⟨en130, fun W db ob wb v d st r g l1 l2 l3 t fi sm => ?_⟩
  show Calls Tryz.prog 192 #[pv db, pv ob, pv b1] W _
  exact lever2_c 152 9 db ob wb b1 v d.cells st r d.thr fi.h W p104 (h1.kept g (by simp)) (not_of h1.lt l1 l2 l3) t rfl
set_option maxHeartbeats 8000000 in
set_option maxRecDepth 100000 in
theorem ly_turn (w : World) (b1 : Nat) (h1 : Has w b1 [fv 153] 194) : LayC w .turn 192 #[pv b1] := by
  refine ⟨en130, fun W db ob wb v d st r g l1 l2 l3 t fi sm => ?_⟩
  show Calls Tryz.prog 192 #[pv db, pv ob, pv b1] W _
  exact lever2_c 153 10 db ob wb b1 v d.cells st r d.turn fi.t W p105 (h1.kept g (by simp)) (not_of h1.lt l1 l2 l3) t rfl
set_option maxHeartbeats 8000000 in
set_option maxRecDepth 100000 in
theorem ly_player (w : World) : LayC w .player 147 #[] := by
  refine ⟨en99, fun W db ob wb v d st r g l1 l2 l3 t fi sm => ?_⟩
  show Calls Tryz.prog 147 #[pv db, pv ob] W _
  exact player2_c db ob wb v d.cells st r d.player fi.p W t rfl
set_option maxHeartbeats 8000000 in
set_option maxRecDepth 100000 in
theorem ly_name (w : World) : LayC w .name 141 #[] := by
  refine ⟨en93, fun W db ob wb v d st r g l1 l2 l3 t fi sm => ?_⟩
  show Calls Tryz.prog 141 #[pv db, pv ob] W _
  exact name2_c db ob wb v d.cells st r d.name sm.m W t rfl
set_option maxHeartbeats 8000000 in
set_option maxRecDepth 100000 in
theorem ly_view (w : World) : LayC w .view 158 #[] := by
  refine ⟨en110, fun W db ob wb v d st r g l1 l2 l3 t fi sm => ?_⟩
  show Calls Tryz.prog 158 #[pv db, pv ob] W _
  exact view2_c db ob wb v d.cells st r d.data sm.dt W t rfl
set_option maxHeartbeats 8000000 in
set_option maxRecDepth 100000 in
theorem ly_flags (w : World) : LayC w .flags 155 #[] := by
  refine ⟨en107, fun W db ob wb v d st r g l1 l2 l3 t fi sm => ?_⟩
  show Calls Tryz.prog 155 #[pv db, pv ob] W _
  exact flags2_c db ob wb v d.cells st r d.fire d.boost W t rfl rfl
set_option maxHeartbeats 8000000 in
set_option maxRecDepth 100000 in
theorem ly_zeros (w : World) (zb : Nat) (hz : Has w zb [.string (ba zero76)] 9) : LayC w .zeros 135 #[pv zb] := by
  refine ⟨en87, fun W db ob wb v d st r g l1 l2 l3 t fi sm => ?_⟩
  show Calls Tryz.prog 135 #[pv db, pv ob, pv zb] W _
  have := zeros2_c db ob wb zb v d.cells st r (ba zero76) (by decide) W (hz.kept g (by simp)) (not_of hz.lt l1 l2 l3) t
  rw [show sl (ba zero76) = zero76 from sl_mk _] at this
  exact this

set_option maxRecDepth 100000 in
theorem under57 : ∃ d, Tryz.prog.underlying 109 = some d ∧ d.isRow = true := ⟨_, Tryz.underlying109, rfl⟩
set_option maxRecDepth 100000 in
theorem info57 : (Tryz.prog.info? 109).map (·.size) = some 2 := by kernel_rfl
abbrev fc (n : Nat) (c : Array Value) : Value := .func (.func n) #[] c
set_option maxRecDepth 100000 in
theorem hs1 (w : World) (x : Obj) : (w.alloc x).heap.size = w.heap.size + 1 := by simp
set_option maxRecDepth 100000 in
theorem three (w : World) (a b c : Array Value) (s t u : TypeId) :
    Has (((w.alloc (.cells a s)).alloc (.cells b t)).alloc (.cells c u)) w.heap.size a.toList s ∧ Has (((w.alloc (.cells a s)).alloc (.cells b t)).alloc (.cells c u)) (w.heap.size + 1) b.toList t ∧ Has (((w.alloc (.cells a s)).alloc (.cells b t)).alloc (.cells c u)) (w.heap.size + 1 + 1) c.toList u ∧ w.grownBy (((w.alloc (.cells a s)).alloc (.cells b t)).alloc (.cells c u)) none := by
  refine ⟨((Has.newA w a s).alloc _).alloc _, ?_, ?_, ((World.grownBy_alloc _ _ _).trans (World.grownBy_alloc _ _ _)).trans (World.grownBy_alloc _ _ _)⟩
  · have := (Has.newA (w.alloc (.cells a s)) b t).alloc (.cells c u)
    rw [hs1] at this; exact this
  · have := Has.newA ((w.alloc (.cells a s)).alloc (.cells b t)) c u
    rw [hs1, hs1] at this; exact this
set_option maxRecDepth 100000 in
theorem two (w : World) (a b : Array Value) (s t : TypeId) :
    Has ((w.alloc (.cells a s)).alloc (.cells b t)) w.heap.size a.toList s ∧ Has ((w.alloc (.cells a s)).alloc (.cells b t)) (w.heap.size + 1) b.toList t ∧ w.grownBy ((w.alloc (.cells a s)).alloc (.cells b t)) none := by
  refine ⟨(Has.newA w a s).alloc _, ?_, (World.grownBy_alloc _ _ _).trans (World.grownBy_alloc _ _ _)⟩
  have := Has.newA (w.alloc (.cells a s)) b t
  rw [hs1] at this; exact this
abbrev MF : Prop := ∀ (fn : Fn) (first cap : Array Value) (w : World), (Instr.makeFunc fn first cap).run Tryz.prog w = .ok (.func fn first cap) w
set_option maxHeartbeats 8000000 in
set_option maxRecDepth 100000 in
theorem fixed_c (n : Int) (pl : Nat) (w : World) :
    Calls Tryz.prog 130 #[.int .i64 n, fv pl] w fun e w' => ∃ b1 b2, e = .returned (.agg #[fc 180 #[pv b1, pv b2], fc 181 #[pv b2, pv b1]]) ∧ Has w' b1 [.int .i64 n] 3 ∧ Has w' b2 [fv pl] 186 ∧ w.grownBy w' none := by
  have hmf : MF := fun _ _ _ _ => rfl
  obtain ⟨d, hd, hr⟩ := under57
  go_enter Tryz.func130, Tryz.ntmps130
  go_wp2
  obtain ⟨h1, h2, h3, g⟩ := three w #[.int .i64 n] #[fv pl] #[fc 180 #[pv w.heap.size, pv (w.heap.size + 1)], fc 181 #[pv (w.heap.size + 1), pv w.heap.size]] 3 186 109
  exact ret_cell rfl rfl h3 hd hr info57 rfl ⟨w.heap.size, w.heap.size + 1, rfl, h1, h2, g⟩
set_option maxHeartbeats 8000000 in
set_option maxRecDepth 100000 in
theorem long_c (pl : Nat) (w : World) :
    Calls Tryz.prog 136 #[fv pl] w fun e w' => ∃ b1, e = .returned (.agg #[fc 185 #[pv b1], fc 186 #[pv b1]]) ∧ Has w' b1 [fv pl] 191 ∧ w.grownBy w' none := by
  have hmf : MF := fun _ _ _ _ => rfl
  obtain ⟨d, hd, hr⟩ := under57
  go_enter Tryz.func136, Tryz.ntmps136
  go_wp2
  obtain ⟨h1, h3, g⟩ := two w #[fv pl] #[fc 185 #[pv w.heap.size], fc 186 #[pv w.heap.size]] 191 109
  exact ret_cell rfl rfl h3 hd hr info57 rfl ⟨w.heap.size, rfl, h1, g⟩
set_option maxHeartbeats 8000000 in
set_option maxRecDepth 100000 in
theorem lever_c (pl : Nat) (w : World) :
    Calls Tryz.prog 151 #[fv pl] w fun e w' => ∃ b1, e = .returned (.agg #[fc 190 #[pv b1], fc 192 #[pv b1]]) ∧ Has w' b1 [fv pl] 194 ∧ w.grownBy w' none := by
  have hmf : MF := fun _ _ _ _ => rfl
  obtain ⟨d, hd, hr⟩ := under57
  go_enter Tryz.func151, Tryz.ntmps151
  go_wp2
  obtain ⟨h1, h3, g⟩ := two w #[fv pl] #[fc 190 #[pv w.heap.size], fc 192 #[pv w.heap.size]] 194 109
  exact ret_cell rfl rfl h3 hd hr info57 rfl ⟨w.heap.size, rfl, h1, g⟩
/-- a function that makes a field -/
def Makes (F : Nat) (f : Fd) : Prop := ∀ w : World, Calls Tryz.prog F #[] w fun e w' => ∃ vt vl, e = .returned (.agg #[vt, vl]) ∧ FieldC w' f vt vl ∧ w.grownBy w' none
set_option maxHeartbeats 8000000 in
set_option maxRecDepth 100000 in
theorem mk_nonce : Makes 73 .nonce := fun w => by
  obtain ⟨d, hd, hr⟩ := under57
  go_enter Tryz.func73, Tryz.ntmps73
  go_wp2_with fail
  refine (fixed_c 16 131 _).mono ?_
  rintro e w2 ⟨b1, b2, rfl, h1, h2, g⟩
  have g3 := g
  have h0 : Has w2 w.heap.size [.nilFunc, .nilFunc] 109 := (Has.newA w #[.nilFunc, .nilFunc] 109).kept g (by simp)
  have hne : b1 ≠ w.heap.size ∧ b2 ≠ w.heap.size := ⟨fun e => (by rw [e] at h1; have := h0.symm.trans h1; simp at this), fun e => (by rw [e] at h2; have := h0.symm.trans h2; simp at this)⟩
  have c0 : w2.cell? ⟨w.heap.size, 0, none⟩ = some .nilFunc := h0.cellv 0 _ rfl
  have c1 : w2.cell? ⟨w.heap.size, 1, none⟩ = some .nilFunc := h0.cellv 1 _ rfl
  have z0 : w2.frozen? ⟨w.heap.size, 0, none⟩ = false := h0.frozen 0
  have z1 : w2.frozen? ⟨w.heap.size, 1, none⟩ = false := h0.frozen 1
  have HE : Keep (Has ((w2.setCell ⟨w.heap.size, 0, none⟩ (fc 180 #[pv b1, pv b2])).setCell ⟨w.heap.size, 1, none⟩ (fc 181 #[pv b2, pv b1])) w.heap.size [fc 180 #[pv b1, pv b2], fc 181 #[pv b2, pv b1]] 109 ∧ w.grownBy ((w2.setCell ⟨w.heap.size, 0, none⟩ (fc 180 #[pv b1, pv b2])).setCell ⟨w.heap.size, 1, none⟩ (fc 181 #[pv b2, pv b1])) none ∧ FieldC ((w2.setCell ⟨w.heap.size, 0, none⟩ (fc 180 #[pv b1, pv b2])).setCell ⟨w.heap.size, 1, none⟩ (fc 181 #[pv b2, pv b1])) .nonce (fc 180 #[pv b1, pv b2]) (fc 181 #[pv b2, pv b1])) := by
    have g5 : w2.grownBy ((w2.setCell ⟨w.heap.size, 0, none⟩ (fc 180 #[pv b1, pv b2])).setCell ⟨w.heap.size, 1, none⟩ (fc 181 #[pv b2, pv b1])) (some w.heap.size) := (gr_set _ _ _ _).trans (gr_set _ _ _ _)
    refine ⟨(h0.setCell 0 (fc 180 #[pv b1, pv b2])).setCell 1 (fc 181 #[pv b2, pv b1]), gr_new ((World.grownBy_alloc w (.cells #[.nilFunc, .nilFunc] 109) none).trans g) g5 (Nat.le_refl _), 180, #[pv b1, pv b2], 181, #[pv b2, pv b1], rfl, rfl, ?_, ?_⟩
    · exact tk_nonce _ b1 b2 (h1.kept g5 (by simp; omega)) (h2.kept g5 (by simp; omega))
    · exact ly_nonce _ b1 b2 (h1.kept g5 (by simp; omega)) (h2.kept g5 (by simp; omega))
  clear h0 hne g g3 h1 h2
  go_wp2
  exact ret_cell rfl rfl HE.out.1 hd hr info57 rfl ⟨_, _, rfl, HE.out.2.2, HE.out.2.1⟩
set_option maxHeartbeats 8000000 in
set_option maxRecDepth 100000 in
theorem mk_cookie : Makes 76 .cookie := fun w => by
  obtain ⟨d, hd, hr⟩ := under57
  go_enter Tryz.func76, Tryz.ntmps76
  go_wp2_with fail
  refine (fixed_c 32 138 _).mono ?_
  rintro e w2 ⟨b1, b2, rfl, h1, h2, g⟩
  have g3 := g
  have h0 : Has w2 w.heap.size [.nilFunc, .nilFunc] 109 := (Has.newA w #[.nilFunc, .nilFunc] 109).kept g (by simp)
  have hne : b1 ≠ w.heap.size ∧ b2 ≠ w.heap.size := ⟨fun e => (by rw [e] at h1; have := h0.symm.trans h1; simp at this), fun e => (by rw [e] at h2; have := h0.symm.trans h2; simp at this)⟩
  have c0 : w2.cell? ⟨w.heap.size, 0, none⟩ = some .nilFunc := h0.cellv 0 _ rfl
  have c1 : w2.cell? ⟨w.heap.size, 1, none⟩ = some .nilFunc := h0.cellv 1 _ rfl
  have z0 : w2.frozen? ⟨w.heap.size, 0, none⟩ = false := h0.frozen 0
  have z1 : w2.frozen? ⟨w.heap.size, 1, none⟩ = false := h0.frozen 1
  have HE : Keep (Has ((w2.setCell ⟨w.heap.size, 0, none⟩ (fc 180 #[pv b1, pv b2])).setCell ⟨w.heap.size, 1, none⟩ (fc 181 #[pv b2, pv b1])) w.heap.size [fc 180 #[pv b1, pv b2], fc 181 #[pv b2, pv b1]] 109 ∧ w.grownBy ((w2.setCell ⟨w.heap.size, 0, none⟩ (fc 180 #[pv b1, pv b2])).setCell ⟨w.heap.size, 1, none⟩ (fc 181 #[pv b2, pv b1])) none ∧ FieldC ((w2.setCell ⟨w.heap.size, 0, none⟩ (fc 180 #[pv b1, pv b2])).setCell ⟨w.heap.size, 1, none⟩ (fc 181 #[pv b2, pv b1])) .cookie (fc 180 #[pv b1, pv b2]) (fc 181 #[pv b2, pv b1])) := by
    have g5 : w2.grownBy ((w2.setCell ⟨w.heap.size, 0, none⟩ (fc 180 #[pv b1, pv b2])).setCell ⟨w.heap.size, 1, none⟩ (fc 181 #[pv b2, pv b1])) (some w.heap.size) := (gr_set _ _ _ _).trans (gr_set _ _ _ _)
    refine ⟨(h0.setCell 0 (fc 180 #[pv b1, pv b2])).setCell 1 (fc 181 #[pv b2, pv b1]), gr_new ((World.grownBy_alloc w (.cells #[.nilFunc, .nilFunc] 109) none).trans g) g5 (Nat.le_refl _), 180, #[pv b1, pv b2], 181, #[pv b2, pv b1], rfl, rfl, ?_, ?_⟩
    · exact tk_cookie _ b1 b2 (h1.kept g5 (by simp; omega)) (h2.kept g5 (by simp; omega))
    · exact ly_cookie _ b1 b2 (h1.kept g5 (by simp; omega)) (h2.kept g5 (by simp; omega))
  clear h0 hne g g3 h1 h2
  go_wp2
  exact ret_cell rfl rfl HE.out.1 hd hr info57 rfl ⟨_, _, rfl, HE.out.2.2, HE.out.2.1⟩
set_option maxHeartbeats 8000000 in
set_option maxRecDepth 100000 in
theorem mk_tag : Makes 78 .tag := fun w => by
  obtain ⟨d, hd, hr⟩ := under57
  go_enter Tryz.func78, Tryz.ntmps78
  go_wp2_with fail
  refine (fixed_c 32 143 _).mono ?_
  rintro e w2 ⟨b1, b2, rfl, h1, h2, g⟩
  have g3 := g
  have h0 : Has w2 w.heap.size [.nilFunc, .nilFunc] 109 := (Has.newA w #[.nilFunc, .nilFunc] 109).kept g (by simp)
  have hne : b1 ≠ w.heap.size ∧ b2 ≠ w.heap.size := ⟨fun e => (by rw [e] at h1; have := h0.symm.trans h1; simp at this), fun e => (by rw [e] at h2; have := h0.symm.trans h2; simp at this)⟩
  have c0 : w2.cell? ⟨w.heap.size, 0, none⟩ = some .nilFunc := h0.cellv 0 _ rfl
  have c1 : w2.cell? ⟨w.heap.size, 1, none⟩ = some .nilFunc := h0.cellv 1 _ rfl
  have z0 : w2.frozen? ⟨w.heap.size, 0, none⟩ = false := h0.frozen 0
  have z1 : w2.frozen? ⟨w.heap.size, 1, none⟩ = false := h0.frozen 1
  have HE : Keep (Has ((w2.setCell ⟨w.heap.size, 0, none⟩ (fc 180 #[pv b1, pv b2])).setCell ⟨w.heap.size, 1, none⟩ (fc 181 #[pv b2, pv b1])) w.heap.size [fc 180 #[pv b1, pv b2], fc 181 #[pv b2, pv b1]] 109 ∧ w.grownBy ((w2.setCell ⟨w.heap.size, 0, none⟩ (fc 180 #[pv b1, pv b2])).setCell ⟨w.heap.size, 1, none⟩ (fc 181 #[pv b2, pv b1])) none ∧ FieldC ((w2.setCell ⟨w.heap.size, 0, none⟩ (fc 180 #[pv b1, pv b2])).setCell ⟨w.heap.size, 1, none⟩ (fc 181 #[pv b2, pv b1])) .tag (fc 180 #[pv b1, pv b2]) (fc 181 #[pv b2, pv b1])) := by
    have g5 : w2.grownBy ((w2.setCell ⟨w.heap.size, 0, none⟩ (fc 180 #[pv b1, pv b2])).setCell ⟨w.heap.size, 1, none⟩ (fc 181 #[pv b2, pv b1])) (some w.heap.size) := (gr_set _ _ _ _).trans (gr_set _ _ _ _)
    refine ⟨(h0.setCell 0 (fc 180 #[pv b1, pv b2])).setCell 1 (fc 181 #[pv b2, pv b1]), gr_new ((World.grownBy_alloc w (.cells #[.nilFunc, .nilFunc] 109) none).trans g) g5 (Nat.le_refl _), 180, #[pv b1, pv b2], 181, #[pv b2, pv b1], rfl, rfl, ?_, ?_⟩
    · exact tk_tag _ b1 b2 (h1.kept g5 (by simp; omega)) (h2.kept g5 (by simp; omega))
    · exact ly_tag _ b1 b2 (h1.kept g5 (by simp; omega)) (h2.kept g5 (by simp; omega))
  clear h0 hne g g3 h1 h2
  go_wp2
  exact ret_cell rfl rfl HE.out.1 hd hr info57 rfl ⟨_, _, rfl, HE.out.2.2, HE.out.2.1⟩
set_option maxHeartbeats 8000000 in
set_option maxRecDepth 100000 in
theorem mk_salt : Makes 81 .salt := fun w => by
  obtain ⟨d, hd, hr⟩ := under57
  go_enter Tryz.func81, Tryz.ntmps81
  go_wp2_with fail
  refine (fixed_c 16 149 _).mono ?_
  rintro e w2 ⟨b1, b2, rfl, h1, h2, g⟩
  have g3 := g
  have h0 : Has w2 w.heap.size [.nilFunc, .nilFunc] 109 := (Has.newA w #[.nilFunc, .nilFunc] 109).kept g (by simp)
  have hne : b1 ≠ w.heap.size ∧ b2 ≠ w.heap.size := ⟨fun e => (by rw [e] at h1; have := h0.symm.trans h1; simp at this), fun e => (by rw [e] at h2; have := h0.symm.trans h2; simp at this)⟩
  have c0 : w2.cell? ⟨w.heap.size, 0, none⟩ = some .nilFunc := h0.cellv 0 _ rfl
  have c1 : w2.cell? ⟨w.heap.size, 1, none⟩ = some .nilFunc := h0.cellv 1 _ rfl
  have z0 : w2.frozen? ⟨w.heap.size, 0, none⟩ = false := h0.frozen 0
  have z1 : w2.frozen? ⟨w.heap.size, 1, none⟩ = false := h0.frozen 1
  have HE : Keep (Has ((w2.setCell ⟨w.heap.size, 0, none⟩ (fc 180 #[pv b1, pv b2])).setCell ⟨w.heap.size, 1, none⟩ (fc 181 #[pv b2, pv b1])) w.heap.size [fc 180 #[pv b1, pv b2], fc 181 #[pv b2, pv b1]] 109 ∧ w.grownBy ((w2.setCell ⟨w.heap.size, 0, none⟩ (fc 180 #[pv b1, pv b2])).setCell ⟨w.heap.size, 1, none⟩ (fc 181 #[pv b2, pv b1])) none ∧ FieldC ((w2.setCell ⟨w.heap.size, 0, none⟩ (fc 180 #[pv b1, pv b2])).setCell ⟨w.heap.size, 1, none⟩ (fc 181 #[pv b2, pv b1])) .salt (fc 180 #[pv b1, pv b2]) (fc 181 #[pv b2, pv b1])) := by
    have g5 : w2.grownBy ((w2.setCell ⟨w.heap.size, 0, none⟩ (fc 180 #[pv b1, pv b2])).setCell ⟨w.heap.size, 1, none⟩ (fc 181 #[pv b2, pv b1])) (some w.heap.size) := (gr_set _ _ _ _).trans (gr_set _ _ _ _)
    refine ⟨(h0.setCell 0 (fc 180 #[pv b1, pv b2])).setCell 1 (fc 181 #[pv b2, pv b1]), gr_new ((World.grownBy_alloc w (.cells #[.nilFunc, .nilFunc] 109) none).trans g) g5 (Nat.le_refl _), 180, #[pv b1, pv b2], 181, #[pv b2, pv b1], rfl, rfl, ?_, ?_⟩
    · exact tk_salt _ b1 b2 (h1.kept g5 (by simp; omega)) (h2.kept g5 (by simp; omega))
    · exact ly_salt _ b1 b2 (h1.kept g5 (by simp; omega)) (h2.kept g5 (by simp; omega))
  clear h0 hne g g3 h1 h2
  go_wp2
  exact ret_cell rfl rfl HE.out.1 hd hr info57 rfl ⟨_, _, rfl, HE.out.2.2, HE.out.2.1⟩
set_option maxHeartbeats 8000000 in
set_option maxRecDepth 100000 in
theorem mk_epoch : Makes 75 .epoch := fun w => by
  obtain ⟨d, hd, hr⟩ := under57
  go_enter Tryz.func75, Tryz.ntmps75
  go_wp2_with fail
  refine (long_c 137 _).mono ?_
  rintro e w2 ⟨b1, rfl, h1, g⟩
  have g3 := g
  have h0 : Has w2 w.heap.size [.nilFunc, .nilFunc] 109 := (Has.newA w #[.nilFunc, .nilFunc] 109).kept g (by simp)
  have hne : b1 ≠ w.heap.size := fun e => (by rw [e] at h1; have := h0.symm.trans h1; simp at this)
  have c0 : w2.cell? ⟨w.heap.size, 0, none⟩ = some .nilFunc := h0.cellv 0 _ rfl
  have c1 : w2.cell? ⟨w.heap.size, 1, none⟩ = some .nilFunc := h0.cellv 1 _ rfl
  have z0 : w2.frozen? ⟨w.heap.size, 0, none⟩ = false := h0.frozen 0
  have z1 : w2.frozen? ⟨w.heap.size, 1, none⟩ = false := h0.frozen 1
  have HE : Keep (Has ((w2.setCell ⟨w.heap.size, 0, none⟩ (fc 185 #[pv b1])).setCell ⟨w.heap.size, 1, none⟩ (fc 186 #[pv b1])) w.heap.size [fc 185 #[pv b1], fc 186 #[pv b1]] 109 ∧ w.grownBy ((w2.setCell ⟨w.heap.size, 0, none⟩ (fc 185 #[pv b1])).setCell ⟨w.heap.size, 1, none⟩ (fc 186 #[pv b1])) none ∧ FieldC ((w2.setCell ⟨w.heap.size, 0, none⟩ (fc 185 #[pv b1])).setCell ⟨w.heap.size, 1, none⟩ (fc 186 #[pv b1])) .epoch (fc 185 #[pv b1]) (fc 186 #[pv b1])) := by
    have g5 : w2.grownBy ((w2.setCell ⟨w.heap.size, 0, none⟩ (fc 185 #[pv b1])).setCell ⟨w.heap.size, 1, none⟩ (fc 186 #[pv b1])) (some w.heap.size) := (gr_set _ _ _ _).trans (gr_set _ _ _ _)
    refine ⟨(h0.setCell 0 (fc 185 #[pv b1])).setCell 1 (fc 186 #[pv b1]), gr_new ((World.grownBy_alloc w (.cells #[.nilFunc, .nilFunc] 109) none).trans g) g5 (Nat.le_refl _), 185, #[pv b1], 186, #[pv b1], rfl, rfl, ?_, ?_⟩
    · exact tk_epoch _ b1 (h1.kept g5 (by simp; omega))
    · exact ly_epoch _ b1 (h1.kept g5 (by simp; omega))
  clear h0 hne g g3 h1
  go_wp2
  exact ret_cell rfl rfl HE.out.1 hd hr info57 rfl ⟨_, _, rfl, HE.out.2.2, HE.out.2.1⟩
set_option maxHeartbeats 8000000 in
set_option maxRecDepth 100000 in
theorem mk_session : Makes 79 .session := fun w => by
  obtain ⟨d, hd, hr⟩ := under57
  go_enter Tryz.func79, Tryz.ntmps79
  go_wp2_with fail
  refine (long_c 144 _).mono ?_
  rintro e w2 ⟨b1, rfl, h1, g⟩
  have g3 := g
  have h0 : Has w2 w.heap.size [.nilFunc, .nilFunc] 109 := (Has.newA w #[.nilFunc, .nilFunc] 109).kept g (by simp)
  have hne : b1 ≠ w.heap.size := fun e => (by rw [e] at h1; have := h0.symm.trans h1; simp at this)
  have c0 : w2.cell? ⟨w.heap.size, 0, none⟩ = some .nilFunc := h0.cellv 0 _ rfl
  have c1 : w2.cell? ⟨w.heap.size, 1, none⟩ = some .nilFunc := h0.cellv 1 _ rfl
  have z0 : w2.frozen? ⟨w.heap.size, 0, none⟩ = false := h0.frozen 0
  have z1 : w2.frozen? ⟨w.heap.size, 1, none⟩ = false := h0.frozen 1
  have HE : Keep (Has ((w2.setCell ⟨w.heap.size, 0, none⟩ (fc 185 #[pv b1])).setCell ⟨w.heap.size, 1, none⟩ (fc 186 #[pv b1])) w.heap.size [fc 185 #[pv b1], fc 186 #[pv b1]] 109 ∧ w.grownBy ((w2.setCell ⟨w.heap.size, 0, none⟩ (fc 185 #[pv b1])).setCell ⟨w.heap.size, 1, none⟩ (fc 186 #[pv b1])) none ∧ FieldC ((w2.setCell ⟨w.heap.size, 0, none⟩ (fc 185 #[pv b1])).setCell ⟨w.heap.size, 1, none⟩ (fc 186 #[pv b1])) .session (fc 185 #[pv b1]) (fc 186 #[pv b1])) := by
    have g5 : w2.grownBy ((w2.setCell ⟨w.heap.size, 0, none⟩ (fc 185 #[pv b1])).setCell ⟨w.heap.size, 1, none⟩ (fc 186 #[pv b1])) (some w.heap.size) := (gr_set _ _ _ _).trans (gr_set _ _ _ _)
    refine ⟨(h0.setCell 0 (fc 185 #[pv b1])).setCell 1 (fc 186 #[pv b1]), gr_new ((World.grownBy_alloc w (.cells #[.nilFunc, .nilFunc] 109) none).trans g) g5 (Nat.le_refl _), 185, #[pv b1], 186, #[pv b1], rfl, rfl, ?_, ?_⟩
    · exact tk_session _ b1 (h1.kept g5 (by simp; omega))
    · exact ly_session _ b1 (h1.kept g5 (by simp; omega))
  clear h0 hne g g3 h1
  go_wp2
  exact ret_cell rfl rfl HE.out.1 hd hr info57 rfl ⟨_, _, rfl, HE.out.2.2, HE.out.2.1⟩
set_option maxHeartbeats 8000000 in
set_option maxRecDepth 100000 in
theorem mk_seq : Makes 82 .seq := fun w => by
  obtain ⟨d, hd, hr⟩ := under57
  go_enter Tryz.func82, Tryz.ntmps82
  go_wp2_with fail
  refine (long_c 150 _).mono ?_
  rintro e w2 ⟨b1, rfl, h1, g⟩
  have g3 := g
  have h0 : Has w2 w.heap.size [.nilFunc, .nilFunc] 109 := (Has.newA w #[.nilFunc, .nilFunc] 109).kept g (by simp)
  have hne : b1 ≠ w.heap.size := fun e => (by rw [e] at h1; have := h0.symm.trans h1; simp at this)
  have c0 : w2.cell? ⟨w.heap.size, 0, none⟩ = some .nilFunc := h0.cellv 0 _ rfl
  have c1 : w2.cell? ⟨w.heap.size, 1, none⟩ = some .nilFunc := h0.cellv 1 _ rfl
  have z0 : w2.frozen? ⟨w.heap.size, 0, none⟩ = false := h0.frozen 0
  have z1 : w2.frozen? ⟨w.heap.size, 1, none⟩ = false := h0.frozen 1
  have HE : Keep (Has ((w2.setCell ⟨w.heap.size, 0, none⟩ (fc 185 #[pv b1])).setCell ⟨w.heap.size, 1, none⟩ (fc 186 #[pv b1])) w.heap.size [fc 185 #[pv b1], fc 186 #[pv b1]] 109 ∧ w.grownBy ((w2.setCell ⟨w.heap.size, 0, none⟩ (fc 185 #[pv b1])).setCell ⟨w.heap.size, 1, none⟩ (fc 186 #[pv b1])) none ∧ FieldC ((w2.setCell ⟨w.heap.size, 0, none⟩ (fc 185 #[pv b1])).setCell ⟨w.heap.size, 1, none⟩ (fc 186 #[pv b1])) .seq (fc 185 #[pv b1]) (fc 186 #[pv b1])) := by
    have g5 : w2.grownBy ((w2.setCell ⟨w.heap.size, 0, none⟩ (fc 185 #[pv b1])).setCell ⟨w.heap.size, 1, none⟩ (fc 186 #[pv b1])) (some w.heap.size) := (gr_set _ _ _ _).trans (gr_set _ _ _ _)
    refine ⟨(h0.setCell 0 (fc 185 #[pv b1])).setCell 1 (fc 186 #[pv b1]), gr_new ((World.grownBy_alloc w (.cells #[.nilFunc, .nilFunc] 109) none).trans g) g5 (Nat.le_refl _), 185, #[pv b1], 186, #[pv b1], rfl, rfl, ?_, ?_⟩
    · exact tk_seq _ b1 (h1.kept g5 (by simp; omega))
    · exact ly_seq _ b1 (h1.kept g5 (by simp; omega))
  clear h0 hne g g3 h1
  go_wp2
  exact ret_cell rfl rfl HE.out.1 hd hr info57 rfl ⟨_, _, rfl, HE.out.2.2, HE.out.2.1⟩
set_option maxHeartbeats 8000000 in
set_option maxRecDepth 100000 in
theorem mk_thr : Makes 83 .thr := fun w => by
  obtain ⟨d, hd, hr⟩ := under57
  go_enter Tryz.func83, Tryz.ntmps83
  go_wp2_with fail
  refine (lever_c 152 _).mono ?_
  rintro e w2 ⟨b1, rfl, h1, g⟩
  have g3 := g
  have h0 : Has w2 w.heap.size [.nilFunc, .nilFunc] 109 := (Has.newA w #[.nilFunc, .nilFunc] 109).kept g (by simp)
  have hne : b1 ≠ w.heap.size := fun e => (by rw [e] at h1; have := h0.symm.trans h1; simp at this)
  have c0 : w2.cell? ⟨w.heap.size, 0, none⟩ = some .nilFunc := h0.cellv 0 _ rfl
  have c1 : w2.cell? ⟨w.heap.size, 1, none⟩ = some .nilFunc := h0.cellv 1 _ rfl
  have z0 : w2.frozen? ⟨w.heap.size, 0, none⟩ = false := h0.frozen 0
  have z1 : w2.frozen? ⟨w.heap.size, 1, none⟩ = false := h0.frozen 1
  have HE : Keep (Has ((w2.setCell ⟨w.heap.size, 0, none⟩ (fc 190 #[pv b1])).setCell ⟨w.heap.size, 1, none⟩ (fc 192 #[pv b1])) w.heap.size [fc 190 #[pv b1], fc 192 #[pv b1]] 109 ∧ w.grownBy ((w2.setCell ⟨w.heap.size, 0, none⟩ (fc 190 #[pv b1])).setCell ⟨w.heap.size, 1, none⟩ (fc 192 #[pv b1])) none ∧ FieldC ((w2.setCell ⟨w.heap.size, 0, none⟩ (fc 190 #[pv b1])).setCell ⟨w.heap.size, 1, none⟩ (fc 192 #[pv b1])) .thr (fc 190 #[pv b1]) (fc 192 #[pv b1])) := by
    have g5 : w2.grownBy ((w2.setCell ⟨w.heap.size, 0, none⟩ (fc 190 #[pv b1])).setCell ⟨w.heap.size, 1, none⟩ (fc 192 #[pv b1])) (some w.heap.size) := (gr_set _ _ _ _).trans (gr_set _ _ _ _)
    refine ⟨(h0.setCell 0 (fc 190 #[pv b1])).setCell 1 (fc 192 #[pv b1]), gr_new ((World.grownBy_alloc w (.cells #[.nilFunc, .nilFunc] 109) none).trans g) g5 (Nat.le_refl _), 190, #[pv b1], 192, #[pv b1], rfl, rfl, ?_, ?_⟩
    · exact tk_thr _ b1 (h1.kept g5 (by simp; omega))
    · exact ly_thr _ b1 (h1.kept g5 (by simp; omega))
  clear h0 hne g g3 h1
  go_wp2
  exact ret_cell rfl rfl HE.out.1 hd hr info57 rfl ⟨_, _, rfl, HE.out.2.2, HE.out.2.1⟩
set_option maxHeartbeats 8000000 in
set_option maxRecDepth 100000 in
theorem mk_turn : Makes 84 .turn := fun w => by
  obtain ⟨d, hd, hr⟩ := under57
  go_enter Tryz.func84, Tryz.ntmps84
  go_wp2_with fail
  refine (lever_c 153 _).mono ?_
  rintro e w2 ⟨b1, rfl, h1, g⟩
  have g3 := g
  have h0 : Has w2 w.heap.size [.nilFunc, .nilFunc] 109 := (Has.newA w #[.nilFunc, .nilFunc] 109).kept g (by simp)
  have hne : b1 ≠ w.heap.size := fun e => (by rw [e] at h1; have := h0.symm.trans h1; simp at this)
  have c0 : w2.cell? ⟨w.heap.size, 0, none⟩ = some .nilFunc := h0.cellv 0 _ rfl
  have c1 : w2.cell? ⟨w.heap.size, 1, none⟩ = some .nilFunc := h0.cellv 1 _ rfl
  have z0 : w2.frozen? ⟨w.heap.size, 0, none⟩ = false := h0.frozen 0
  have z1 : w2.frozen? ⟨w.heap.size, 1, none⟩ = false := h0.frozen 1
  have HE : Keep (Has ((w2.setCell ⟨w.heap.size, 0, none⟩ (fc 190 #[pv b1])).setCell ⟨w.heap.size, 1, none⟩ (fc 192 #[pv b1])) w.heap.size [fc 190 #[pv b1], fc 192 #[pv b1]] 109 ∧ w.grownBy ((w2.setCell ⟨w.heap.size, 0, none⟩ (fc 190 #[pv b1])).setCell ⟨w.heap.size, 1, none⟩ (fc 192 #[pv b1])) none ∧ FieldC ((w2.setCell ⟨w.heap.size, 0, none⟩ (fc 190 #[pv b1])).setCell ⟨w.heap.size, 1, none⟩ (fc 192 #[pv b1])) .turn (fc 190 #[pv b1]) (fc 192 #[pv b1])) := by
    have g5 : w2.grownBy ((w2.setCell ⟨w.heap.size, 0, none⟩ (fc 190 #[pv b1])).setCell ⟨w.heap.size, 1, none⟩ (fc 192 #[pv b1])) (some w.heap.size) := (gr_set _ _ _ _).trans (gr_set _ _ _ _)
    refine ⟨(h0.setCell 0 (fc 190 #[pv b1])).setCell 1 (fc 192 #[pv b1]), gr_new ((World.grownBy_alloc w (.cells #[.nilFunc, .nilFunc] 109) none).trans g) g5 (Nat.le_refl _), 190, #[pv b1], 192, #[pv b1], rfl, rfl, ?_, ?_⟩
    · exact tk_turn _ b1 (h1.kept g5 (by simp; omega))
    · exact ly_turn _ b1 (h1.kept g5 (by simp; omega))
  clear h0 hne g g3 h1
  go_wp2
  exact ret_cell rfl rfl HE.out.1 hd hr info57 rfl ⟨_, _, rfl, HE.out.2.2, HE.out.2.1⟩
set_option maxHeartbeats 8000000 in
set_option maxRecDepth 100000 in
theorem mk_player : Makes 80 .player := fun w => by
  obtain ⟨d, hd, hr⟩ := under57
  go_enter Tryz.func80, Tryz.ntmps80
  go_wp2
  exact ret_cell rfl rfl (Has.newA w #[fv 145, fv 147] 109) hd hr info57 rfl ⟨fv 145, fv 147, rfl, ⟨145, #[], 147, #[], rfl, rfl, tk_player _, ly_player _⟩, World.grownBy_alloc _ _ _⟩
set_option maxHeartbeats 8000000 in
set_option maxRecDepth 100000 in
theorem mk_flags : Makes 85 .flags := fun w => by
  obtain ⟨d, hd, hr⟩ := under57
  go_enter Tryz.func85, Tryz.ntmps85
  go_wp2
  exact ret_cell rfl rfl (Has.newA w #[fv 154, fv 155] 109) hd hr info57 rfl ⟨fv 154, fv 155, rfl, ⟨154, #[], 155, #[], rfl, rfl, tk_flags _, ly_flags _⟩, World.grownBy_alloc _ _ _⟩
set_option maxHeartbeats 8000000 in
set_option maxRecDepth 100000 in
theorem mk_name : Makes 77 .name := fun w => by
  obtain ⟨d, hd, hr⟩ := under57
  go_enter Tryz.func77, Tryz.ntmps77
  go_wp2
  exact ret_cell rfl rfl (Has.newA w #[fv 139, fv 141] 109) hd hr info57 rfl ⟨fv 139, fv 141, rfl, ⟨139, #[], 141, #[], rfl, rfl, tk_name _, ly_name _⟩, World.grownBy_alloc _ _ _⟩
set_option maxHeartbeats 8000000 in
set_option maxRecDepth 100000 in
theorem mk_view : Makes 86 .view := fun w => by
  obtain ⟨d, hd, hr⟩ := under57
  go_enter Tryz.func86, Tryz.ntmps86
  go_wp2
  exact ret_cell rfl rfl (Has.newA w #[fv 156, fv 158] 109) hd hr info57 rfl ⟨fv 156, fv 158, rfl, ⟨156, #[], 158, #[], rfl, rfl, tk_view _, ly_view _⟩, World.grownBy_alloc _ _ _⟩
end Go.Proofs.YtldnpebnpbahjaaGreatDoor.Pk
