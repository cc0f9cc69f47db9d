import Derived.Test.YtkdjcknikhgfkaaGreatDoorFB2
/- what each field's second function does; the fields -/
namespace Go.Proofs.YtkdjcknikhgfkaaGreatDoor.Pk
open Go Go.RowKit

/-- its texts are no longer than that -/
structure Dg.small (d : Dg) : Prop where
  n : d.nonce.size ≤ 1099511627776
  c : d.cookie.size ≤ 1099511627776
  m : d.name.size ≤ 1099511627776
  s : d.salt.size ≤ 1099511627776
  dt : d.data.size ≤ 1099511627776
  t : d.tag.size ≤ 1099511627776
def LayC (w : World) (f : Fd) (n : Nat) (c : Array Value) : Prop :=
  Enters n ∧ ∀ (W : World) (db ob wb : Nat) (v : Value) (d : Dg) (st : WS) (r : Bool), w.grownBy W none → w.heap.size ≤ ob → w.heap.size ≤ wb → (∀ k, v.ownBlock = some k → w.heap.size ≤ k) → Lay W db ob wb v d.cells st r → d.fine → d.small →
    Calls Tryz.prog n (#[pv db, pv ob] ++ c) W fun e w' => e = .returned (.tuple #[]) ∧ ∃ v', OD W w' ob wb v (ly d f (st, r)).1 (ly d f (st, r)).2 v'
set_option maxRecDepth 100000 in
theorem LayC.kept {w w' : World} {f : Fd} {n : Nat} {c : Array Value} (h : LayC w f n c) (g : w.grownBy w' none) : LayC w' f n c :=
  ⟨h.1, fun W db ob wb v d st r gW l1 l2 l3 t => h.2 W db ob wb v d st r (g.trans gW) (Nat.le_trans g.size l1) (Nat.le_trans g.size l2) (fun k e => Nat.le_trans g.size (l3 k e)) t⟩
set_option maxRecDepth 100000 in
theorem not_of {w : World} {ob wb : Nat} {v : Value} {b : Nat} (hb : b < w.heap.size) (l1 : w.heap.size ≤ ob) (l2 : w.heap.size ≤ wb) (l3 : ∀ k, v.ownBlock = some k → w.heap.size ≤ k) : ¬ OF ob wb v b := by
  rintro (e | e | e)
  · omega
  · omega
  · have := l3 _ e; omega
/-- a field's two functions -/
def FieldC (w : World) (f : Fd) (vt vl : Value) : Prop := ∃ nt ct nl cl, vt = .func (.func nt) #[] ct ∧ vl = .func (.func nl) #[] cl ∧ TakeC w f nt ct ∧ LayC w f nl cl
set_option maxRecDepth 100000 in
theorem FieldC.kept {w w' : World} {f : Fd} {vt vl : Value} (h : FieldC w f vt vl) (g : w.grownBy w' none) : FieldC w' f vt vl := by
  obtain ⟨nt, ct, nl, cl, e1, e2, h1, h2⟩ := h
  exact ⟨nt, ct, nl, cl, e1, e2, h1.kept g, h2.kept g⟩
set_option maxRecDepth 100000 in
theorem en119 : Enters 146 := fun _ _ => by kernel_rfl
set_option maxRecDepth 100000 in
theorem en124 : Enters 151 := fun _ _ => by kernel_rfl
set_option maxRecDepth 100000 in
theorem en130 : Enters 156 := fun _ _ => by kernel_rfl
set_option maxRecDepth 100000 in
theorem en99 : Enters 110 := fun _ _ => by kernel_rfl
set_option maxRecDepth 100000 in
theorem en107 : Enters 118 := fun _ _ => by kernel_rfl
set_option maxRecDepth 100000 in
theorem en93 : Enters 104 := fun _ _ => by kernel_rfl
set_option maxRecDepth 100000 in
theorem en110 : Enters 121 := fun _ _ => by kernel_rfl
set_option maxRecDepth 100000 in
theorem en87 : Enters 97 := fun _ _ => by kernel_rfl
set_option maxHeartbeats 8000000 in
set_option maxRecDepth 100000 in
theorem ly_nonce (w : World) (b1 b2 : Nat) (h1 : Has w b1 [.int .i64 (16 : Nat)] 3) (h2 : Has w b2 [fv 93] 146) : LayC w .nonce 146 #[pv b2, pv b1] := by
  refine ⟨en119, fun W db ob wb v d st r g l1 l2 l3 t fi sm => ?_⟩
  show Calls Tryz.prog 146 #[pv db, pv ob, pv b2, pv b1] W _
  exact fixed2_c 93 1 16 db ob wb b1 b2 v d.cells st r d.nonce sm.n W p83 (h1.kept g (by simp)) (h2.kept g (by simp)) (not_of h1.lt l1 l2 l3) (not_of h2.lt l1 l2 l3) t rfl
set_option maxHeartbeats 8000000 in
set_option maxRecDepth 100000 in
theorem ly_salt (w : World) (b1 b2 : Nat) (h1 : Has w b1 [.int .i64 (16 : Nat)] 3) (h2 : Has w b2 [fv 112] 146) : LayC w .salt 146 #[pv b2, pv b1] := by
  refine ⟨en119, fun W db ob wb v d st r g l1 l2 l3 t fi sm => ?_⟩
  show Calls Tryz.prog 146 #[pv db, pv ob, pv b2, pv b1] W _
  exact fixed2_c 112 7 16 db ob wb b1 b2 v d.cells st r d.salt sm.s W p101 (h1.kept g (by simp)) (h2.kept g (by simp)) (not_of h1.lt l1 l2 l3) (not_of h2.lt l1 l2 l3) t rfl
set_option maxHeartbeats 8000000 in
set_option maxRecDepth 100000 in
theorem ly_cookie (w : World) (b1 b2 : Nat) (h1 : Has w b1 [.int .i64 (32 : Nat)] 3) (h2 : Has w b2 [fv 101] 146) : LayC w .cookie 146 #[pv b2, pv b1] := by
  refine ⟨en119, fun W db ob wb v d st r g l1 l2 l3 t fi sm => ?_⟩
  show Calls Tryz.prog 146 #[pv db, pv ob, pv b2, pv b1] W _
  exact fixed2_c 101 3 32 db ob wb b1 b2 v d.cells st r d.cookie sm.c W p90 (h1.kept g (by simp)) (h2.kept g (by simp)) (not_of h1.lt l1 l2 l3) (not_of h2.lt l1 l2 l3) t rfl
set_option maxHeartbeats 8000000 in
set_option maxRecDepth 100000 in
theorem ly_tag (w : World) (b1 b2 : Nat) (h1 : Has w b1 [.int .i64 (32 : Nat)] 3) (h2 : Has w b2 [fv 106] 146) : LayC w .tag 146 #[pv b2, pv b1] := by
  refine ⟨en119, fun W db ob wb v d st r g l1 l2 l3 t fi sm => ?_⟩
  show Calls Tryz.prog 146 #[pv db, pv ob, pv b2, pv b1] W _
  exact fixed2_c 106 14 32 db ob wb b1 b2 v d.cells st r d.tag sm.t W p95 (h1.kept g (by simp)) (h2.kept g (by simp)) (not_of h1.lt l1 l2 l3) (not_of h2.lt l1 l2 l3) t rfl
set_option maxHeartbeats 8000000 in
set_option maxRecDepth 100000 in
theorem ly_epoch (w : World) (b1 : Nat) (h1 : Has w b1 [fv 100] 153) : LayC w .epoch 151 #[pv b1] := by
  refine ⟨en124, fun W db ob wb v d st r g l1 l2 l3 t fi sm => ?_⟩
  show Calls Tryz.prog 151 #[pv db, pv ob, pv b1] W _
  exact long2_c 100 2 db ob wb b1 v d.cells st r d.epoch fi.e W p89 (h1.kept g (by simp)) (not_of h1.lt l1 l2 l3) t rfl
set_option maxHeartbeats 8000000 in
set_option maxRecDepth 100000 in
theorem ly_session (w : World) (b1 : Nat) (h1 : Has w b1 [fv 107] 153) : LayC w .session 151 #[pv b1] := by
  refine ⟨en124, fun W db ob wb v d st r g l1 l2 l3 t fi sm => ?_⟩
  show Calls Tryz.prog 151 #[pv db, pv ob, pv b1] W _
  exact long2_c 107 5 db ob wb b1 v d.cells st r d.session fi.s W p96 (h1.kept g (by simp)) (not_of h1.lt l1 l2 l3) t rfl
set_option maxHeartbeats 8000000 in
set_option maxRecDepth 100000 in
theorem ly_seq (w : World) (b1 : Nat) (h1 : Has w b1 [fv 113] 153) : LayC w .seq 151 #[pv b1] := by
  refine ⟨en124, fun W db ob wb v d st r g l1 l2 l3 t fi sm => ?_⟩
  show Calls Tryz.prog 151 #[pv db, pv ob, pv b1] W _
  exact long2_c 113 8 db ob wb b1 v d.cells st r d.seq fi.q W p102 (h1.kept g (by simp)) (not_of h1.lt l1 l2 l3) t rfl
set_option maxHeartbeats 8000000 in
set_option maxRecDepth 100000 in
theorem ly_thr (w : World) (b1 : Nat) (h1 : Has w b1 [fv 115] 156) : LayC w .thr 156 #[pv b1] := by
  refine ⟨en130, fun W db ob wb v d st r g l1 l2 l3 t fi sm => ?_⟩
  show Calls Tryz.prog 156 #[pv db, pv ob, pv b1] W _
  exact lever2_c 115 9 db ob wb b1 v d.cells st r d.thr fi.h W p104 (h1.kept g (by simp)) (not_of h1.lt l1 l2 l3) t rfl
set_option maxHeartbeats 8000000 in
set_option maxRecDepth 100000 in
theorem ly_turn (w : World) (b1 : Nat) (h1 : Has w b1 [fv 116] 156) : LayC w .turn 156 #[pv b1] := by
  refine ⟨en130, fun W db ob wb v d st r g l1 l2 l3 t fi sm => ?_⟩
  show Calls Tryz.prog 156 #[pv db, pv ob, pv b1] W _
  exact lever2_c 116 10 db ob wb b1 v d.cells st r d.turn fi.t W p105 (h1.kept g (by simp)) (not_of h1.lt l1 l2 l3) t rfl
set_option maxHeartbeats 8000000 in
set_option maxRecDepth 100000 in
theorem ly_player (w : World) : LayC w .player 110 #[] := by
  refine ⟨en99, fun W db ob wb v d st r g l1 l2 l3 t fi sm => ?_⟩
  show Calls Tryz.prog 110 #[pv db, pv ob] W _
  exact player2_c db ob wb v d.cells st r d.player fi.p W t rfl
set_option maxHeartbeats 8000000 in
set_option maxRecDepth 100000 in
theorem ly_name (w : World) : LayC w .name 104 #[] := by
  refine ⟨en93, fun W db ob wb v d st r g l1 l2 l3 t fi sm => ?_⟩
  show Calls Tryz.prog 104 #[pv db, pv ob] W _
  exact name2_c db ob wb v d.cells st r d.name sm.m W t rfl
set_option maxHeartbeats 8000000 in
set_option maxRecDepth 100000 in
theorem ly_view (w : World) : LayC w .view 121 #[] := by
  refine ⟨en110, fun W db ob wb v d st r g l1 l2 l3 t fi sm => ?_⟩
  show Calls Tryz.prog 121 #[pv db, pv ob] W _
  exact view2_c db ob wb v d.cells st r d.data sm.dt W t rfl
set_option maxHeartbeats 8000000 in
set_option maxRecDepth 100000 in
theorem ly_flags (w : World) : LayC w .flags 118 #[] := by
  refine ⟨en107, fun W db ob wb v d st r g l1 l2 l3 t fi sm => ?_⟩
  show Calls Tryz.prog 118 #[pv db, pv ob] W _
  exact flags2_c db ob wb v d.cells st r d.fire d.boost W t rfl rfl
set_option maxHeartbeats 8000000 in
set_option maxRecDepth 100000 in
theorem ly_zeros (w : World) (zb : Nat) (hz : Has w zb [.string (ba zero76)] 9) : LayC w .zeros 97 #[pv zb] := by
  refine ⟨en87, fun W db ob wb v d st r g l1 l2 l3 t fi sm => ?_⟩
  show Calls Tryz.prog 97 #[pv db, pv ob, pv zb] W _
  have := zeros2_c db ob wb zb v d.cells st r (ba zero76) (by decide) W (hz.kept g (by simp)) (not_of hz.lt l1 l2 l3) t
  rw [show sl (ba zero76) = zero76 from sl_mk _] at this
  exact this

set_option maxRecDepth 100000 in
theorem under57 : ∃ d, Tryz.prog.underlying 106 = some d ∧ d.isRow = true := ⟨_, Tryz.underlying106, rfl⟩
set_option maxRecDepth 100000 in
theorem info57 : (Tryz.prog.info? 106).map (·.size) = some 2 := by kernel_rfl
abbrev fc (n : Nat) (c : Array Value) : Value := .func (.func n) #[] c
set_option maxRecDepth 100000 in
theorem hs1 (w : World) (x : Obj) : (w.alloc x).heap.size = w.heap.size + 1 := by simp
set_option maxRecDepth 100000 in
theorem three (w : World) (a b c : Array Value) (s t u : TypeId) :
    Has (((w.alloc (.cells a s)).alloc (.cells b t)).alloc (.cells c u)) w.heap.size a.toList s ∧ Has (((w.alloc (.cells a s)).alloc (.cells b t)).alloc (.cells c u)) (w.heap.size + 1) b.toList t ∧ Has (((w.alloc (.cells a s)).alloc (.cells b t)).alloc (.cells c u)) (w.heap.size + 1 + 1) c.toList u ∧ w.grownBy (((w.alloc (.cells a s)).alloc (.cells b t)).alloc (.cells c u)) none := by
  refine ⟨((Has.newA w a s).alloc _).alloc _, ?_, ?_, ((World.grownBy_alloc _ _ _).trans (World.grownBy_alloc _ _ _)).trans (World.grownBy_alloc _ _ _)⟩
  · have := (Has.newA (w.alloc (.cells a s)) b t).alloc (.cells c u)
    rw [hs1] at this; exact this
  · have := Has.newA ((w.alloc (.cells a s)).alloc (.cells b t)) c u
    rw [hs1, hs1] at this; exact this
set_option maxRecDepth 100000 in
theorem two (w : World) (a b : Array Value) (s t : TypeId) :
    Has ((w.alloc (.cells a s)).alloc (.cells b t)) w.heap.size a.toList s ∧ Has ((w.alloc (.cells a s)).alloc (.cells b t)) (w.heap.size + 1) b.toList t ∧ w.grownBy ((w.alloc (.cells a s)).alloc (.cells b t)) none := by
  refine ⟨(Has.newA w a s).alloc _, ?_, (World.grownBy_alloc _ _ _).trans (World.grownBy_alloc _ _ _)⟩
  have := Has.newA (w.alloc (.cells a s)) b t
  rw [hs1] at this; exact this
abbrev MF : Prop := ∀ (fn : Fn) (first cap : Array Value) (w : World), (Instr.makeFunc fn first cap).run Tryz.prog w = .ok (.func fn first cap) w
set_option maxHeartbeats 8000000 in
set_option maxRecDepth 100000 in
theorem fixed_c (n : Int) (pl : Nat) (w : World) :
    Calls Tryz.prog 92 #[.int .i64 n, fv pl] w fun e w' => ∃ b1 b2, e = .returned (.agg #[fc 145 #[pv b1, pv b2], fc 146 #[pv b2, pv b1]]) ∧ Has w' b1 [.int .i64 n] 3 ∧ Has w' b2 [fv pl] 146 ∧ w.grownBy w' none := by
  have hmf : MF := fun _ _ _ _ => rfl
  obtain ⟨d, hd, hr⟩ := under57
  go_enter Tryz.func92, Tryz.ntmps92
  go_wp2
  obtain ⟨h1, h2, h3, g⟩ := three w #[.int .i64 n] #[fv pl] #[fc 145 #[pv w.heap.size, pv (w.heap.size + 1)], fc 146 #[pv (w.heap.size + 1), pv w.heap.size]] 3 146 106
  exact ret_cell rfl rfl h3 hd hr info57 rfl ⟨w.heap.size, w.heap.size + 1, rfl, h1, h2, g⟩
set_option maxHeartbeats 8000000 in
set_option maxRecDepth 100000 in
theorem long_c (pl : Nat) (w : World) :
    Calls Tryz.prog 99 #[fv pl] w fun e w' => ∃ b1, e = .returned (.agg #[fc 150 #[pv b1], fc 151 #[pv b1]]) ∧ Has w' b1 [fv pl] 153 ∧ w.grownBy w' none := by
  have hmf : MF := fun _ _ _ _ => rfl
  obtain ⟨d, hd, hr⟩ := under57
  go_enter Tryz.func99, Tryz.ntmps99
  go_wp2
  obtain ⟨h1, h3, g⟩ := two w #[fv pl] #[fc 150 #[pv w.heap.size], fc 151 #[pv w.heap.size]] 153 106
  exact ret_cell rfl rfl h3 hd hr info57 rfl ⟨w.heap.size, rfl, h1, g⟩
set_option maxHeartbeats 8000000 in
set_option maxRecDepth 100000 in
theorem lever_c (pl : Nat) (w : World) :
    Calls Tryz.prog 114 #[fv pl] w fun e w' => ∃ b1, e = .returned (.agg #[fc 154 #[pv b1], fc 156 #[pv b1]]) ∧ Has w' b1 [fv pl] 156 ∧ w.grownBy w' none := by
  have hmf : MF := fun _ _ _ _ => rfl
  obtain ⟨d, hd, hr⟩ := under57
  go_enter Tryz.func114, Tryz.ntmps114
  go_wp2
  obtain ⟨h1, h3, g⟩ := two w #[fv pl] #[fc 154 #[pv w.heap.size], fc 156 #[pv w.heap.size]] 156 106
  exact ret_cell rfl rfl h3 hd hr info57 rfl ⟨w.heap.size, rfl, h1, g⟩
/-- a function that makes a field -/
def Makes (F : Nat) (f : Fd) : Prop := ∀ w : World, Calls Tryz.prog F #[] w fun e w' => ∃ vt vl, e = .returned (.agg #[vt, vl]) ∧ FieldC w' f vt vl ∧ w.grownBy w' none
set_option maxHeartbeats 8000000 in
set_option maxRecDepth 100000 in
theorem mk_nonce : Makes 52 .nonce := fun w => by
  obtain ⟨d, hd, hr⟩ := under57
  go_enter Tryz.func52, Tryz.ntmps52
  go_wp2_with fail
  refine (fixed_c 16 93 _).mono ?_
  rintro e w2 ⟨b1, b2, rfl, h1, h2, g⟩
  have g3 := g
  have h0 : Has w2 w.heap.size [.nilFunc, .nilFunc] 106 := (Has.newA w #[.nilFunc, .nilFunc] 106).kept g (by simp)
  have hne : b1 ≠ w.heap.size ∧ b2 ≠ w.heap.size := ⟨fun e => (by rw [e] at h1; have := h0.symm.trans h1; simp at this), fun e => (by rw [e] at h2; have := h0.symm.trans h2; simp at this)⟩
  have c0 : w2.cell? ⟨w.heap.size, 0, none⟩ = some .nilFunc := h0.cellv 0 _ rfl
  have c1 : w2.cell? ⟨w.heap.size, 1, none⟩ = some .nilFunc := h0.cellv 1 _ rfl
  have z0 : w2.frozen? ⟨w.heap.size, 0, none⟩ = false := h0.frozen 0
  have z1 : w2.frozen? ⟨w.heap.size, 1, none⟩ = false := h0.frozen 1
  have HE : Keep (Has ((w2.setCell ⟨w.heap.size, 0, none⟩ (fc 145 #[pv b1, pv b2])).setCell ⟨w.heap.size, 1, none⟩ (fc 146 #[pv b2, pv b1])) w.heap.size [fc 145 #[pv b1, pv b2], fc 146 #[pv b2, pv b1]] 106 ∧ w.grownBy ((w2.setCell ⟨w.heap.size, 0, none⟩ (fc 145 #[pv b1, pv b2])).setCell ⟨w.heap.size, 1, none⟩ (fc 146 #[pv b2, pv b1])) none ∧ FieldC ((w2.setCell ⟨w.heap.size, 0, none⟩ (fc 145 #[pv b1, pv b2])).setCell ⟨w.heap.size, 1, none⟩ (fc 146 #[pv b2, pv b1])) .nonce (fc 145 #[pv b1, pv b2]) (fc 146 #[pv b2, pv b1])) := by
    have g5 : w2.grownBy ((w2.setCell ⟨w.heap.size, 0, none⟩ (fc 145 #[pv b1, pv b2])).setCell ⟨w.heap.size, 1, none⟩ (fc 146 #[pv b2, pv b1])) (some w.heap.size) := (gr_set _ _ _ _).trans (gr_set _ _ _ _)
    refine ⟨(h0.setCell 0 (fc 145 #[pv b1, pv b2])).setCell 1 (fc 146 #[pv b2, pv b1]), gr_new ((World.grownBy_alloc w (.cells #[.nilFunc, .nilFunc] 106) none).trans g) g5 (Nat.le_refl _), 145, #[pv b1, pv b2], 146, #[pv b2, pv b1], rfl, rfl, ?_, ?_⟩
    · exact tk_nonce _ b1 b2 (h1.kept g5 (by simp; omega)) (h2.kept g5 (by simp; omega))
    · exact ly_nonce _ b1 b2 (h1.kept g5 (by simp; omega)) (h2.kept g5 (by simp; omega))
  clear h0 hne g g3 h1 h2
  go_wp2
  exact ret_cell rfl rfl HE.out.1 hd hr info57 rfl ⟨_, _, rfl, HE.out.2.2, HE.out.2.1⟩
set_option maxHeartbeats 8000000 in
set_option maxRecDepth 100000 in
theorem mk_cookie : Makes 55 .cookie := fun w => by
  obtain ⟨d, hd, hr⟩ := under57
  go_enter Tryz.func55, Tryz.ntmps55
  go_wp2_with fail
  refine (fixed_c 32 101 _).mono ?_
  rintro e w2 ⟨b1, b2, rfl, h1, h2, g⟩
  have g3 := g
  have h0 : Has w2 w.heap.size [.nilFunc, .nilFunc] 106 := (Has.newA w #[.nilFunc, .nilFunc] 106).kept g (by simp)
  have hne : b1 ≠ w.heap.size ∧ b2 ≠ w.heap.size := ⟨fun e => (by rw [e] at h1; have := h0.symm.trans h1; simp at this), fun e => (by rw [e] at h2; have := h0.symm.trans h2; simp at this)⟩
  have c0 : w2.cell? ⟨w.heap.size, 0, none⟩ = some .nilFunc := h0.cellv 0 _ rfl
  have c1 : w2.cell? ⟨w.heap.size, 1, none⟩ = some .nilFunc := h0.cellv 1 _ rfl
  have z0 : w2.frozen? ⟨w.heap.size, 0, none⟩ = false := h0.frozen 0
  have z1 : w2.frozen? ⟨w.heap.size, 1, none⟩ = false := h0.frozen 1
  have HE : Keep (Has ((w2.setCell ⟨w.heap.size, 0, none⟩ (fc 145 #[pv b1, pv b2])).setCell ⟨w.heap.size, 1, none⟩ (fc 146 #[pv b2, pv b1])) w.heap.size [fc 145 #[pv b1, pv b2], fc 146 #[pv b2, pv b1]] 106 ∧ w.grownBy ((w2.setCell ⟨w.heap.size, 0, none⟩ (fc 145 #[pv b1, pv b2])).setCell ⟨w.heap.size, 1, none⟩ (fc 146 #[pv b2, pv b1])) none ∧ FieldC ((w2.setCell ⟨w.heap.size, 0, none⟩ (fc 145 #[pv b1, pv b2])).setCell ⟨w.heap.size, 1, none⟩ (fc 146 #[pv b2, pv b1])) .cookie (fc 145 #[pv b1, pv b2]) (fc 146 #[pv b2, pv b1])) := by
    have g5 : w2.grownBy ((w2.setCell ⟨w.heap.size, 0, none⟩ (fc 145 #[pv b1, pv b2])).setCell ⟨w.heap.size, 1, none⟩ (fc 146 #[pv b2, pv b1])) (some w.heap.size) := (gr_set _ _ _ _).trans (gr_set _ _ _ _)
    refine ⟨(h0.setCell 0 (fc 145 #[pv b1, pv b2])).setCell 1 (fc 146 #[pv b2, pv b1]), gr_new ((World.grownBy_alloc w (.cells #[.nilFunc, .nilFunc] 106) none).trans g) g5 (Nat.le_refl _), 145, #[pv b1, pv b2], 146, #[pv b2, pv b1], rfl, rfl, ?_, ?_⟩
    · exact tk_cookie _ b1 b2 (h1.kept g5 (by simp; omega)) (h2.kept g5 (by simp; omega))
    · exact ly_cookie _ b1 b2 (h1.kept g5 (by simp; omega)) (h2.kept g5 (by simp; omega))
  clear h0 hne g g3 h1 h2
  go_wp2
  exact ret_cell rfl rfl HE.out.1 hd hr info57 rfl ⟨_, _, rfl, HE.out.2.2, HE.out.2.1⟩
set_option maxHeartbeats 8000000 in
set_option maxRecDepth 100000 in
theorem mk_tag : Makes 57 .tag := fun w => by
  obtain ⟨d, hd, hr⟩ := under57
  go_enter Tryz.func57, Tryz.ntmps57
  go_wp2_with fail
  refine (fixed_c 32 106 _).mono ?_
  rintro e w2 ⟨b1, b2, rfl, h1, h2, g⟩
  have g3 := g
  have h0 : Has w2 w.heap.size [.nilFunc, .nilFunc] 106 := (Has.newA w #[.nilFunc, .nilFunc] 106).kept g (by simp)
  have hne : b1 ≠ w.heap.size ∧ b2 ≠ w.heap.size := ⟨fun e => (by rw [e] at h1; have := h0.symm.trans h1; simp at this), fun e => (by rw [e] at h2; have := h0.symm.trans h2; simp at this)⟩
  have c0 : w2.cell? ⟨w.heap.size, 0, none⟩ = some .nilFunc := h0.cellv 0 _ rfl
  have c1 : w2.cell? ⟨w.heap.size, 1, none⟩ = some .nilFunc := h0.cellv 1 _ rfl
  have z0 : w2.frozen? ⟨w.heap.size, 0, none⟩ = false := h0.frozen 0
  have z1 : w2.frozen? ⟨w.heap.size, 1, none⟩ = false := h0.frozen 1
  have HE : Keep (Has ((w2.setCell ⟨w.heap.size, 0, none⟩ (fc 145 #[pv b1, pv b2])).setCell ⟨w.heap.size, 1, none⟩ (fc 146 #[pv b2, pv b1])) w.heap.size [fc 145 #[pv b1, pv b2], fc 146 #[pv b2, pv b1]] 106 ∧ w.grownBy ((w2.setCell ⟨w.heap.size, 0, none⟩ (fc 145 #[pv b1, pv b2])).setCell ⟨w.heap.size, 1, none⟩ (fc 146 #[pv b2, pv b1])) none ∧ FieldC ((w2.setCell ⟨w.heap.size, 0, none⟩ (fc 145 #[pv b1, pv b2])).setCell ⟨w.heap.size, 1, none⟩ (fc 146 #[pv b2, pv b1])) .tag (fc 145 #[pv b1, pv b2]) (fc 146 #[pv b2, pv b1])) := by
    have g5 : w2.grownBy ((w2.setCell ⟨w.heap.size, 0, none⟩ (fc 145 #[pv b1, pv b2])).setCell ⟨w.heap.size, 1, none⟩ (fc 146 #[pv b2, pv b1])) (some w.heap.size) := (gr_set _ _ _ _).trans (gr_set _ _ _ _)
    refine ⟨(h0.setCell 0 (fc 145 #[pv b1, pv b2])).setCell 1 (fc 146 #[pv b2, pv b1]), gr_new ((World.grownBy_alloc w (.cells #[.nilFunc, .nilFunc] 106) none).trans g) g5 (Nat.le_refl _), 145, #[pv b1, pv b2], 146, #[pv b2, pv b1], rfl, rfl, ?_, ?_⟩
    · exact tk_tag _ b1 b2 (h1.kept g5 (by simp; omega)) (h2.kept g5 (by simp; omega))
    · exact ly_tag _ b1 b2 (h1.kept g5 (by simp; omega)) (h2.kept g5 (by simp; omega))
  clear h0 hne g g3 h1 h2
  go_wp2
  exact ret_cell rfl rfl HE.out.1 hd hr info57 rfl ⟨_, _, rfl, HE.out.2.2, HE.out.2.1⟩
set_option maxHeartbeats 8000000 in
set_option maxRecDepth 100000 in
theorem mk_salt : Makes 60 .salt := fun w => by
  obtain ⟨d, hd, hr⟩ := under57
  go_enter Tryz.func60, Tryz.ntmps60
  go_wp2_with fail
  refine (fixed_c 16 112 _).mono ?_
  rintro e w2 ⟨b1, b2, rfl, h1, h2, g⟩
  have g3 := g
  have h0 : Has w2 w.heap.size [.nilFunc, .nilFunc] 106 := (Has.newA w #[.nilFunc, .nilFunc] 106).kept g (by simp)
  have hne : b1 ≠ w.heap.size ∧ b2 ≠ w.heap.size := ⟨fun e => (by rw [e] at h1; have := h0.symm.trans h1; simp at this), fun e => (by rw [e] at h2; have := h0.symm.trans h2; simp at this)⟩
  have c0 : w2.cell? ⟨w.heap.size, 0, none⟩ = some .nilFunc := h0.cellv 0 _ rfl
  have c1 : w2.cell? ⟨w.heap.size, 1, none⟩ = some .nilFunc := h0.cellv 1 _ rfl
  have z0 : w2.frozen? ⟨w.heap.size, 0, none⟩ = false := h0.frozen 0
  have z1 : w2.frozen? ⟨w.heap.size, 1, none⟩ = false := h0.frozen 1
  have HE : Keep (Has ((w2.setCell ⟨w.heap.size, 0, none⟩ (fc 145 #[pv b1, pv b2])).setCell ⟨w.heap.size, 1, none⟩ (fc 146 #[pv b2, pv b1])) w.heap.size [fc 145 #[pv b1, pv b2], fc 146 #[pv b2, pv b1]] 106 ∧ w.grownBy ((w2.setCell ⟨w.heap.size, 0, none⟩ (fc 145 #[pv b1, pv b2])).setCell ⟨w.heap.size, 1, none⟩ (fc 146 #[pv b2, pv b1])) none ∧ FieldC ((w2.setCell ⟨w.heap.size, 0, none⟩ (fc 145 #[pv b1, pv b2])).setCell ⟨w.heap.size, 1, none⟩ (fc 146 #[pv b2, pv b1])) .salt (fc 145 #[pv b1, pv b2]) (fc 146 #[pv b2, pv b1])) := by
    have g5 : w2.grownBy ((w2.setCell ⟨w.heap.size, 0, none⟩ (fc 145 #[pv b1, pv b2])).setCell ⟨w.heap.size, 1, none⟩ (fc 146 #[pv b2, pv b1])) (some w.heap.size) := (gr_set _ _ _ _).trans (gr_set _ _ _ _)
    refine ⟨(h0.setCell 0 (fc 145 #[pv b1, pv b2])).setCell 1 (fc 146 #[pv b2, pv b1]), gr_new ((World.grownBy_alloc w (.cells #[.nilFunc, .nilFunc] 106) none).trans g) g5 (Nat.le_refl _), 145, #[pv b1, pv b2], 146, #[pv b2, pv b1], rfl, rfl, ?_, ?_⟩
    · exact tk_salt _ b1 b2 (h1.kept g5 (by simp; omega)) (h2.kept g5 (by simp; omega))
    · exact ly_salt _ b1 b2 (h1.kept g5 (by simp; omega)) (h2.kept g5 (by simp; omega))
  clear h0 hne g g3 h1 h2
  go_wp2
  exact ret_cell rfl rfl HE.out.1 hd hr info57 rfl ⟨_, _, rfl, HE.out.2.2, HE.out.2.1⟩
set_option maxHeartbeats 8000000 in
set_option maxRecDepth 100000 in
theorem mk_epoch : Makes 54 .epoch := fun w => by
  obtain ⟨d, hd, hr⟩ := under57
  go_enter Tryz.func54, Tryz.ntmps54
  go_wp2_with fail
  refine (long_c 100 _).mono ?_
  rintro e w2 ⟨b1, rfl, h1, g⟩
  have g3 := g
  have h0 : Has w2 w.heap.size [.nilFunc, .nilFunc] 106 := (Has.newA w #[.nilFunc, .nilFunc] 106).kept g (by simp)
  have hne : b1 ≠ w.heap.size := fun e => (by rw [e] at h1; have := h0.symm.trans h1; simp at this)
  have c0 : w2.cell? ⟨w.heap.size, 0, none⟩ = some .nilFunc := h0.cellv 0 _ rfl
  have c1 : w2.cell? ⟨w.heap.size, 1, none⟩ = some .nilFunc := h0.cellv 1 _ rfl
  have z0 : w2.frozen? ⟨w.heap.size, 0, none⟩ = false := h0.frozen 0
  have z1 : w2.frozen? ⟨w.heap.size, 1, none⟩ = false := h0.frozen 1
  have HE : Keep (Has ((w2.setCell ⟨w.heap.size, 0, none⟩ (fc 150 #[pv b1])).setCell ⟨w.heap.size, 1, none⟩ (fc 151 #[pv b1])) w.heap.size [fc 150 #[pv b1], fc 151 #[pv b1]] 106 ∧ w.grownBy ((w2.setCell ⟨w.heap.size, 0, none⟩ (fc 150 #[pv b1])).setCell ⟨w.heap.size, 1, none⟩ (fc 151 #[pv b1])) none ∧ FieldC ((w2.setCell ⟨w.heap.size, 0, none⟩ (fc 150 #[pv b1])).setCell ⟨w.heap.size, 1, none⟩ (fc 151 #[pv b1])) .epoch (fc 150 #[pv b1]) (fc 151 #[pv b1])) := by
    have g5 : w2.grownBy ((w2.setCell ⟨w.heap.size, 0, none⟩ (fc 150 #[pv b1])).setCell ⟨w.heap.size, 1, none⟩ (fc 151 #[pv b1])) (some w.heap.size) := (gr_set _ _ _ _).trans (gr_set _ _ _ _)
    refine ⟨(h0.setCell 0 (fc 150 #[pv b1])).setCell 1 (fc 151 #[pv b1]), gr_new ((World.grownBy_alloc w (.cells #[.nilFunc, .nilFunc] 106) none).trans g) g5 (Nat.le_refl _), 150, #[pv b1], 151, #[pv b1], rfl, rfl, ?_, ?_⟩
    · exact tk_epoch _ b1 (h1.kept g5 (by simp; omega))
    · exact ly_epoch _ b1 (h1.kept g5 (by simp; omega))
  clear h0 hne g g3 h1
  go_wp2
  exact ret_cell rfl rfl HE.out.1 hd hr info57 rfl ⟨_, _, rfl, HE.out.2.2, HE.out.2.1⟩
set_option maxHeartbeats 8000000 in
set_option maxRecDepth 100000 in
theorem mk_session : Makes 58 .session := fun w => by
  obtain ⟨d, hd, hr⟩ := under57
  go_enter Tryz.func58, Tryz.ntmps58
  go_wp2_with fail
  refine (long_c 107 _).mono ?_
  rintro e w2 ⟨b1, rfl, h1, g⟩
  have g3 := g
  have h0 : Has w2 w.heap.size [.nilFunc, .nilFunc] 106 := (Has.newA w #[.nilFunc, .nilFunc] 106).kept g (by simp)
  have hne : b1 ≠ w.heap.size := fun e => (by rw [e] at h1; have := h0.symm.trans h1; simp at this)
  have c0 : w2.cell? ⟨w.heap.size, 0, none⟩ = some .nilFunc := h0.cellv 0 _ rfl
  have c1 : w2.cell? ⟨w.heap.size, 1, none⟩ = some .nilFunc := h0.cellv 1 _ rfl
  have z0 : w2.frozen? ⟨w.heap.size, 0, none⟩ = false := h0.frozen 0
  have z1 : w2.frozen? ⟨w.heap.size, 1, none⟩ = false := h0.frozen 1
  have HE : Keep (Has ((w2.setCell ⟨w.heap.size, 0, none⟩ (fc 150 #[pv b1])).setCell ⟨w.heap.size, 1, none⟩ (fc 151 #[pv b1])) w.heap.size [fc 150 #[pv b1], fc 151 #[pv b1]] 106 ∧ w.grownBy ((w2.setCell ⟨w.heap.size, 0, none⟩ (fc 150 #[pv b1])).setCell ⟨w.heap.size, 1, none⟩ (fc 151 #[pv b1])) none ∧ FieldC ((w2.setCell ⟨w.heap.size, 0, none⟩ (fc 150 #[pv b1])).setCell ⟨w.heap.size, 1, none⟩ (fc 151 #[pv b1])) .session (fc 150 #[pv b1]) (fc 151 #[pv b1])) := by
    have g5 : w2.grownBy ((w2.setCell ⟨w.heap.size, 0, none⟩ (fc 150 #[pv b1])).setCell ⟨w.heap.size, 1, none⟩ (fc 151 #[pv b1])) (some w.heap.size) := (gr_set _ _ _ _).trans (gr_set _ _ _ _)
    refine ⟨(h0.setCell 0 (fc 150 #[pv b1])).setCell 1 (fc 151 #[pv b1]), gr_new ((World.grownBy_alloc w (.cells #[.nilFunc, .nilFunc] 106) none).trans g) g5 (Nat.le_refl _), 150, #[pv b1], 151, #[pv b1], rfl, rfl, ?_, ?_⟩
    · exact tk_session _ b1 (h1.kept g5 (by simp; omega))
    · exact ly_session _ b1 (h1.kept g5 (by simp; omega))
  clear h0 hne g g3 h1
  go_wp2
  exact ret_cell rfl rfl HE.out.1 hd hr info57 rfl ⟨_, _, rfl, HE.out.2.2, HE.out.2.1⟩
set_option maxHeartbeats 8000000 in
set_option maxRecDepth 100000 in
theorem mk_seq : Makes 61 .seq := fun w => by
  obtain ⟨d, hd, hr⟩ := under57
  go_enter Tryz.func61, Tryz.ntmps61
  go_wp2_with fail
  refine (long_c 113 _).mono ?_
  rintro e w2 ⟨b1, rfl, h1, g⟩
  have g3 := g
  have h0 : Has w2 w.heap.size [.nilFunc, .nilFunc] 106 := (Has.newA w #[.nilFunc, .nilFunc] 106).kept g (by simp)
  have hne : b1 ≠ w.heap.size := fun e => (by rw [e] at h1; have := h0.symm.trans h1; simp at this)
  have c0 : w2.cell? ⟨w.heap.size, 0, none⟩ = some .nilFunc := h0.cellv 0 _ rfl
  have c1 : w2.cell? ⟨w.heap.size, 1, none⟩ = some .nilFunc := h0.cellv 1 _ rfl
  have z0 : w2.frozen? ⟨w.heap.size, 0, none⟩ = false := h0.frozen 0
  have z1 : w2.frozen? ⟨w.heap.size, 1, none⟩ = false := h0.frozen 1
  have HE : Keep (Has ((w2.setCell ⟨w.heap.size, 0, none⟩ (fc 150 #[pv b1])).setCell ⟨w.heap.size, 1, none⟩ (fc 151 #[pv b1])) w.heap.size [fc 150 #[pv b1], fc 151 #[pv b1]] 106 ∧ w.grownBy ((w2.setCell ⟨w.heap.size, 0, none⟩ (fc 150 #[pv b1])).setCell ⟨w.heap.size, 1, none⟩ (fc 151 #[pv b1])) none ∧ FieldC ((w2.setCell ⟨w.heap.size, 0, none⟩ (fc 150 #[pv b1])).setCell ⟨w.heap.size, 1, none⟩ (fc 151 #[pv b1])) .seq (fc 150 #[pv b1]) (fc 151 #[pv b1])) := by
    have g5 : w2.grownBy ((w2.setCell ⟨w.heap.size, 0, none⟩ (fc 150 #[pv b1])).setCell ⟨w.heap.size, 1, none⟩ (fc 151 #[pv b1])) (some w.heap.size) := (gr_set _ _ _ _).trans (gr_set _ _ _ _)
    refine ⟨(h0.setCell 0 (fc 150 #[pv b1])).setCell 1 (fc 151 #[pv b1]), gr_new ((World.grownBy_alloc w (.cells #[.nilFunc, .nilFunc] 106) none).trans g) g5 (Nat.le_refl _), 150, #[pv b1], 151, #[pv b1], rfl, rfl, ?_, ?_⟩
    · exact tk_seq _ b1 (h1.kept g5 (by simp; omega))
    · exact ly_seq _ b1 (h1.kept g5 (by simp; omega))
  clear h0 hne g g3 h1
  go_wp2
  exact ret_cell rfl rfl HE.out.1 hd hr info57 rfl ⟨_, _, rfl, HE.out.2.2, HE.out.2.1⟩
set_option maxHeartbeats 8000000 in
set_option maxRecDepth 100000 in
theorem mk_thr : Makes 62 .thr := fun w => by
  obtain ⟨d, hd, hr⟩ := under57
  go_enter Tryz.func62, Tryz.ntmps62
  go_wp2_with fail
  refine (lever_c 115 _).mono ?_
  rintro e w2 ⟨b1, rfl, h1, g⟩
  have g3 := g
  have h0 : Has w2 w.heap.size [.nilFunc, .nilFunc] 106 := (Has.newA w #[.nilFunc, .nilFunc] 106).kept g (by simp)
  have hne : b1 ≠ w.heap.size := fun e => (by rw [e] at h1; have := h0.symm.trans h1; simp at this)
  have c0 : w2.cell? ⟨w.heap.size, 0, none⟩ = some .nilFunc := h0.cellv 0 _ rfl
  have c1 : w2.cell? ⟨w.heap.size, 1, none⟩ = some .nilFunc := h0.cellv 1 _ rfl
  have z0 : w2.frozen? ⟨w.heap.size, 0, none⟩ = false := h0.frozen 0
  have z1 : w2.frozen? ⟨w.heap.size, 1, none⟩ = false := h0.frozen 1
  have HE : Keep (Has ((w2.setCell ⟨w.heap.size, 0, none⟩ (fc 154 #[pv b1])).setCell ⟨w.heap.size, 1, none⟩ (fc 156 #[pv b1])) w.heap.size [fc 154 #[pv b1], fc 156 #[pv b1]] 106 ∧ w.grownBy ((w2.setCell ⟨w.heap.size, 0, none⟩ (fc 154 #[pv b1])).setCell ⟨w.heap.size, 1, none⟩ (fc 156 #[pv b1])) none ∧ FieldC ((w2.setCell ⟨w.heap.size, 0, none⟩ (fc 154 #[pv b1])).setCell ⟨w.heap.size, 1, none⟩ (fc 156 #[pv b1])) .thr (fc 154 #[pv b1]) (fc 156 #[pv b1])) := by
    have g5 : w2.grownBy ((w2.setCell ⟨w.heap.size, 0, none⟩ (fc 154 #[pv b1])).setCell ⟨w.heap.size, 1, none⟩ (fc 156 #[pv b1])) (some w.heap.size) := (gr_set _ _ _ _).trans (gr_set _ _ _ _)
    refine ⟨(h0.setCell 0 (fc 154 #[pv b1])).setCell 1 (fc 156 #[pv b1]), gr_new ((World.grownBy_alloc w (.cells #[.nilFunc, .nilFunc] 106) none).trans g) g5 (Nat.le_refl _), 154, #[pv b1], 156, #[pv b1], rfl, rfl, ?_, ?_⟩
    · exact tk_thr _ b1 (h1.kept g5 (by simp; omega))
    · exact ly_thr _ b1 (h1.kept g5 (by simp; omega))
  clear h0 hne g g3 h1
  go_wp2
  exact ret_cell rfl rfl HE.out.1 hd hr info57 rfl ⟨_, _, rfl, HE.out.2.2, HE.out.2.1⟩
set_option maxHeartbeats 8000000 in
set_option maxRecDepth 100000 in
theorem mk_turn : Makes 63 .turn := fun w => by
  obtain ⟨d, hd, hr⟩ := under57
  go_enter Tryz.func63, Tryz.ntmps63
  go_wp2_with fail
  refine (lever_c 116 _).mono ?_
  rintro e w2 ⟨b1, rfl, h1, g⟩
  have g3 := g
  have h0 : Has w2 w.heap.size [.nilFunc, .nilFunc] 106 := (Has.newA w #[.nilFunc, .nilFunc] 106).kept g (by simp)
  have hne : b1 ≠ w.heap.size := fun e => (by rw [e] at h1; have := h0.symm.trans h1; simp at this)
  have c0 : w2.cell? ⟨w.heap.size, 0, none⟩ = some .nilFunc := h0.cellv 0 _ rfl
  have c1 : w2.cell? ⟨w.heap.size, 1, none⟩ = some .nilFunc := h0.cellv 1 _ rfl
  have z0 : w2.frozen? ⟨w.heap.size, 0, none⟩ = false := h0.frozen 0
  have z1 : w2.frozen? ⟨w.heap.size, 1, none⟩ = false := h0.frozen 1
  have HE : Keep (Has ((w2.setCell ⟨w.heap.size, 0, none⟩ (fc 154 #[pv b1])).setCell ⟨w.heap.size, 1, none⟩ (fc 156 #[pv b1])) w.heap.size [fc 154 #[pv b1], fc 156 #[pv b1]] 106 ∧ w.grownBy ((w2.setCell ⟨w.heap.size, 0, none⟩ (fc 154 #[pv b1])).setCell ⟨w.heap.size, 1, none⟩ (fc 156 #[pv b1])) none ∧ FieldC ((w2.setCell ⟨w.heap.size, 0, none⟩ (fc 154 #[pv b1])).setCell ⟨w.heap.size, 1, none⟩ (fc 156 #[pv b1])) .turn (fc 154 #[pv b1]) (fc 156 #[pv b1])) := by
    have g5 : w2.grownBy ((w2.setCell ⟨w.heap.size, 0, none⟩ (fc 154 #[pv b1])).setCell ⟨w.heap.size, 1, none⟩ (fc 156 #[pv b1])) (some w.heap.size) := (gr_set _ _ _ _).trans (gr_set _ _ _ _)
    refine ⟨(h0.setCell 0 (fc 154 #[pv b1])).setCell 1 (fc 156 #[pv b1]), gr_new ((World.grownBy_alloc w (.cells #[.nilFunc, .nilFunc] 106) none).trans g) g5 (Nat.le_refl _), 154, #[pv b1], 156, #[pv b1], rfl, rfl, ?_, ?_⟩
    · exact tk_turn _ b1 (h1.kept g5 (by simp; omega))
    · exact ly_turn _ b1 (h1.kept g5 (by simp; omega))
  clear h0 hne g g3 h1
  go_wp2
  exact ret_cell rfl rfl HE.out.1 hd hr info57 rfl ⟨_, _, rfl, HE.out.2.2, HE.out.2.1⟩
set_option maxHeartbeats 8000000 in
set_option maxRecDepth 100000 in
theorem mk_player : Makes 59 .player := fun w => by
  obtain ⟨d, hd, hr⟩ := under57
  go_enter Tryz.func59, Tryz.ntmps59
  go_wp2
  exact ret_cell rfl rfl (Has.newA w #[fv 108, fv 110] 106) hd hr info57 rfl ⟨fv 108, fv 110, rfl, ⟨108, #[], 110, #[], rfl, rfl, tk_player _, ly_player _⟩, World.grownBy_alloc _ _ _⟩
set_option maxHeartbeats 8000000 in
set_option maxRecDepth 100000 in
theorem mk_flags : Makes 64 .flags := fun w => by
  obtain ⟨d, hd, hr⟩ := under57
  go_enter Tryz.func64, Tryz.ntmps64
  go_wp2
  exact ret_cell rfl rfl (Has.newA w #[fv 117, fv 118] 106) hd hr info57 rfl ⟨fv 117, fv 118, rfl, ⟨117, #[], 118, #[], rfl, rfl, tk_flags _, ly_flags _⟩, World.grownBy_alloc _ _ _⟩
set_option maxHeartbeats 8000000 in
set_option maxRecDepth 100000 in
theorem mk_name : Makes 56 .name := fun w => by
  obtain ⟨d, hd, hr⟩ := under57
  go_enter Tryz.func56, Tryz.ntmps56
  go_wp2
  exact ret_cell rfl rfl (Has.newA w #[fv 102, fv 104] 106) hd hr info57 rfl ⟨fv 102, fv 104, rfl, ⟨102, #[], 104, #[], rfl, rfl, tk_name _, ly_name _⟩, World.grownBy_alloc _ _ _⟩
set_option maxHeartbeats 8000000 in
set_option maxRecDepth 100000 in
theorem mk_view : Makes 65 .view := fun w => by
  obtain ⟨d, hd, hr⟩ := under57
  go_enter Tryz.func65, Tryz.ntmps65
  go_wp2
  exact ret_cell rfl rfl (Has.newA w #[fv 119, fv 121] 106) hd hr info57 rfl ⟨fv 119, fv 121, rfl, ⟨119, #[], 121, #[], rfl, rfl, tk_view _, ly_view _⟩, World.grownBy_alloc _ _ _⟩
end Go.Proofs.YtkdjcknikhgfkaaGreatDoor.Pk
