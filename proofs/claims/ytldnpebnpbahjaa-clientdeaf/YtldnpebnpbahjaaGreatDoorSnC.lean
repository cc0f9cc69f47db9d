import Derived.Test.YtldnpebnpbahjaaGreatDoorSnB
/- the parts of a view: how they are made -/
namespace Go.Proofs.YtldnpebnpbahjaaGreatDoor.Pk.Sn
open Go Go.RowKit

def PartC (w : World) (lo hi : Nat) (m : Mk) (b o : Nat) (vl vt : Value) : Prop := ∃ nl cl nt ct, vl = fc nl cl ∧ vt = fc nt ct ∧ LayC w lo hi m b o nl cl ∧ TakeC w lo hi m b o nt ct
theorem PartC.kept {w w' : World} {lo hi lo' hi' : Nat} {m : Mk} {b o : Nat} {vl vt : Value} (h : PartC w lo hi m b o vl vt) (k : Kpt lo hi w w') (h1 : lo' ≤ lo) (h2 : hi ≤ hi') : PartC w' lo' hi' m b o vl vt := by
  obtain ⟨nl, cl, nt, ct, e1, e2, l, t⟩ := h
  exact ⟨nl, cl, nt, ct, e1, e2, l.kept k h1 h2, t.kept k h1 h2⟩
set_option maxRecDepth 100000 in
theorem underP : ∃ d, Tryz.prog.underlying 132 = some d ∧ d.isRow = true := ⟨_, Tryz.underlying132, rfl⟩
set_option maxRecDepth 100000 in
theorem infoP : (Tryz.prog.info? 132).map (·.size) = some 2 := by kernel_rfl
abbrev MF : Prop := ∀ (fn : Fn) (first cap : Array Value) (w : World), (Instr.makeFunc fn first cap).run Tryz.prog w = .ok (.func fn first cap) w
theorem hs1 (w : World) (x : Obj) : (w.alloc x).heap.size = w.heap.size + 1 := by simp
theorem hasA {w : World} {k : Nat} (a : Array Value) (s : TypeId) (h : w.heap.size = k) : Has (w.alloc (.cells a s)) k a.toList s := by
  rw [← h]; exact Has.newA w a s
theorem gr_al (w : World) (x : Obj) : w.grownBy (w.alloc x) none := World.grownBy_alloc _ _ _
set_option maxHeartbeats 8000000 in
set_option maxRecDepth 100000 in
theorem numU (b o : Nat) (w : World) :
    Calls Tryz.prog 218 #[pa b o, iv 8, fv 148, fv 187] w fun e w' => ∃ vl vt, e = .returned (.agg #[vl, vt]) ∧ PartC w' w.heap.size w'.heap.size .U b o vl vt ∧ w.grownBy w' none := by
  have hmf : MF := fun _ _ _ _ => rfl
  obtain ⟨d, hd, hr⟩ := underP
  go_enter Tryz.func218, Tryz.ntmps218
  go_wp2
  refine ret_cell rfl rfl (hasA (k := w.heap.size + 4) #[fc 234 #[pa (w.heap.size + 2) 0, pa w.heap.size 0, pa (w.heap.size + 1) 0], fc 235 #[pa (w.heap.size + 3) 0, pa (w.heap.size + 1) 0, pa w.heap.size 0]] 132 (by simp)) hd hr infoP rfl ⟨_, _, rfl, ⟨234, _, 235, _, rfl, rfl, ?_, ?_⟩, ?_⟩
  · exact layU _ _ _ b o (w.heap.size + 2) w.heap.size (w.heap.size + 1) ((((hasA #[fv 148] 247 (by simp)).alloc _).alloc _)) (((((Has.newA w #[pa b o] 190).alloc _).alloc _).alloc _).alloc _) (((((hasA #[iv 8] 3 (by simp)).alloc _).alloc _).alloc _)) ⟨by simp, by simp <;> omega⟩ ⟨by simp, by simp <;> omega⟩ ⟨by simp, by simp <;> omega⟩
  · exact takU _ _ _ b o (w.heap.size + 3) w.heap.size (w.heap.size + 1) ((hasA #[fv 187] 248 (by simp)).alloc _) (((((Has.newA w #[pa b o] 190).alloc _).alloc _).alloc _).alloc _) (((((hasA #[iv 8] 3 (by simp)).alloc _).alloc _).alloc _)) ⟨by simp, by simp <;> omega⟩ ⟨by simp, by simp <;> omega⟩ ⟨by simp, by simp <;> omega⟩
  · exact ((((gr_al _ _).trans (gr_al _ _)).trans (gr_al _ _)).trans (gr_al _ _)).trans (gr_al _ _)
set_option maxHeartbeats 8000000 in
set_option maxRecDepth 100000 in
theorem numI (b o : Nat) (w : World) :
    Calls Tryz.prog 219 #[pa b o, iv 1, fv 148, fv 187] w fun e w' => ∃ vl vt, e = .returned (.agg #[vl, vt]) ∧ PartC w' w.heap.size w'.heap.size .I b o vl vt ∧ w.grownBy w' none := by
  have hmf : MF := fun _ _ _ _ => rfl
  obtain ⟨d, hd, hr⟩ := underP
  go_enter Tryz.func219, Tryz.ntmps219
  go_wp2
  refine ret_cell rfl rfl (hasA (k := w.heap.size + 4) #[fc 236 #[pa (w.heap.size + 2) 0, pa w.heap.size 0, pa (w.heap.size + 1) 0], fc 237 #[pa (w.heap.size + 3) 0, pa (w.heap.size + 1) 0, pa w.heap.size 0]] 132 (by simp)) hd hr infoP rfl ⟨_, _, rfl, ⟨236, _, 237, _, rfl, rfl, ?_, ?_⟩, ?_⟩
  · exact layI _ _ _ b o (w.heap.size + 2) w.heap.size (w.heap.size + 1) ((((hasA #[fv 148] 247 (by simp)).alloc _).alloc _)) (((((Has.newA w #[pa b o] 193).alloc _).alloc _).alloc _).alloc _) (((((hasA #[iv 1] 3 (by simp)).alloc _).alloc _).alloc _)) ⟨by simp, by simp <;> omega⟩ ⟨by simp, by simp <;> omega⟩ ⟨by simp, by simp <;> omega⟩
  · exact takI _ _ _ b o (w.heap.size + 3) w.heap.size (w.heap.size + 1) ((hasA #[fv 187] 248 (by simp)).alloc _) (((((Has.newA w #[pa b o] 193).alloc _).alloc _).alloc _).alloc _) (((((hasA #[iv 1] 3 (by simp)).alloc _).alloc _).alloc _)) ⟨by simp, by simp <;> omega⟩ ⟨by simp, by simp <;> omega⟩ ⟨by simp, by simp <;> omega⟩
  · exact ((((gr_al _ _).trans (gr_al _ _)).trans (gr_al _ _)).trans (gr_al _ _)).trans (gr_al _ _)
set_option maxHeartbeats 8000000 in
set_option maxRecDepth 100000 in
theorem numL (b o : Nat) (w : World) :
    Calls Tryz.prog 223 #[pa b o, iv 8, fv 193, fv 216] w fun e w' => ∃ vl vt, e = .returned (.agg #[vl, vt]) ∧ PartC w' w.heap.size w'.heap.size .S b o vl vt ∧ w.grownBy w' none := by
  have hmf : MF := fun _ _ _ _ => rfl
  obtain ⟨d, hd, hr⟩ := underP
  go_enter Tryz.func223, Tryz.ntmps223
  go_wp2
  refine ret_cell rfl rfl (hasA (k := w.heap.size + 4) #[fc 238 #[pa (w.heap.size + 2) 0, pa w.heap.size 0, pa (w.heap.size + 1) 0], fc 239 #[pa (w.heap.size + 3) 0, pa (w.heap.size + 1) 0, pa w.heap.size 0]] 132 (by simp)) hd hr infoP rfl ⟨_, _, rfl, ⟨238, _, 239, _, rfl, rfl, ?_, ?_⟩, ?_⟩
  · exact layL _ _ _ b o (w.heap.size + 2) w.heap.size (w.heap.size + 1) ((((hasA #[fv 193] 253 (by simp)).alloc _).alloc _)) (((((Has.newA w #[pa b o] 233).alloc _).alloc _).alloc _).alloc _) (((((hasA #[iv 8] 3 (by simp)).alloc _).alloc _).alloc _)) ⟨by simp, by simp <;> omega⟩ ⟨by simp, by simp <;> omega⟩ ⟨by simp, by simp <;> omega⟩
  · exact takL _ _ _ b o (w.heap.size + 3) w.heap.size (w.heap.size + 1) ((hasA #[fv 216] 254 (by simp)).alloc _) (((((Has.newA w #[pa b o] 233).alloc _).alloc _).alloc _).alloc _) (((((hasA #[iv 8] 3 (by simp)).alloc _).alloc _).alloc _)) ⟨by simp, by simp <;> omega⟩ ⟨by simp, by simp <;> omega⟩ ⟨by simp, by simp <;> omega⟩
  · exact ((((gr_al _ _).trans (gr_al _ _)).trans (gr_al _ _)).trans (gr_al _ _)).trans (gr_al _ _)
set_option maxHeartbeats 8000000 in
set_option maxRecDepth 100000 in
theorem numN (b o : Nat) (w : World) :
    Calls Tryz.prog 224 #[pa b o, iv 8, fv 193, fv 216] w fun e w' => ∃ vl vt, e = .returned (.agg #[vl, vt]) ∧ PartC w' w.heap.size w'.heap.size .S b o vl vt ∧ w.grownBy w' none := by
  have hmf : MF := fun _ _ _ _ => rfl
  obtain ⟨d, hd, hr⟩ := underP
  go_enter Tryz.func224, Tryz.ntmps224
  go_wp2
  refine ret_cell rfl rfl (hasA (k := w.heap.size + 4) #[fc 240 #[pa (w.heap.size + 2) 0, pa w.heap.size 0, pa (w.heap.size + 1) 0], fc 241 #[pa (w.heap.size + 3) 0, pa (w.heap.size + 1) 0, pa w.heap.size 0]] 132 (by simp)) hd hr infoP rfl ⟨_, _, rfl, ⟨240, _, 241, _, rfl, rfl, ?_, ?_⟩, ?_⟩
  · exact layN _ _ _ b o (w.heap.size + 2) w.heap.size (w.heap.size + 1) ((((hasA #[fv 193] 253 (by simp)).alloc _).alloc _)) (((((Has.newA w #[pa b o] 193).alloc _).alloc _).alloc _).alloc _) (((((hasA #[iv 8] 3 (by simp)).alloc _).alloc _).alloc _)) ⟨by simp, by simp <;> omega⟩ ⟨by simp, by simp <;> omega⟩ ⟨by simp, by simp <;> omega⟩
  · exact takN _ _ _ b o (w.heap.size + 3) w.heap.size (w.heap.size + 1) ((hasA #[fv 216] 254 (by simp)).alloc _) (((((Has.newA w #[pa b o] 193).alloc _).alloc _).alloc _).alloc _) (((((hasA #[iv 8] 3 (by simp)).alloc _).alloc _).alloc _)) ⟨by simp, by simp <;> omega⟩ ⟨by simp, by simp <;> omega⟩ ⟨by simp, by simp <;> omega⟩
  · exact ((((gr_al _ _).trans (gr_al _ _)).trans (gr_al _ _)).trans (gr_al _ _)).trans (gr_al _ _)
set_option maxHeartbeats 8000000 in
set_option maxRecDepth 100000 in
theorem plainU (b o : Nat) (w : World) :
    Calls Tryz.prog 195 #[pa b o, iv 8] w fun e w' => ∃ vl vt, e = .returned (.agg #[vl, vt]) ∧ PartC w' w.heap.size w'.heap.size .U b o vl vt ∧ w.grownBy w' none := by
  obtain ⟨d, hd, hr⟩ := underP
  go_enter Tryz.func195, Tryz.ntmps195
  go_wp2_with fail
  refine (numU b o _).mono ?_
  rintro e w2 ⟨vl, vt, rfl, hp, g⟩
  have h0 : Has w2 w.heap.size [.nilFunc, .nilFunc] 132 := (Has.newA w #[.nilFunc, .nilFunc] 132).kept g (by simp)
  have c0 : w2.cell? ⟨w.heap.size, 0, none⟩ = some .nilFunc := h0.cellv 0 _ rfl
  have c1 : w2.cell? ⟨w.heap.size, 1, none⟩ = some .nilFunc := h0.cellv 1 _ rfl
  have z0 : w2.frozen? ⟨w.heap.size, 0, none⟩ = false := h0.frozen 0
  have z1 : w2.frozen? ⟨w.heap.size, 1, none⟩ = false := h0.frozen 1
  obtain ⟨nl, cl, nt, ct, rfl, rfl, l, tk⟩ := hp
  have hs : (w.alloc (.cells #[.nilFunc, .nilFunc] 132)).heap.size = w.heap.size + 1 := hs1 _ _
  have g5 : w2.grownBy ((w2.setCell ⟨w.heap.size, 0, none⟩ (fc nl cl)).setCell ⟨w.heap.size, 1, none⟩ (fc nt ct)) (some w.heap.size) := (gr_set _ _ _ _).trans (gr_set _ _ _ _)
  have hk : Kpt (w.heap.size + 1) w2.heap.size w2 ((w2.setCell ⟨w.heap.size, 0, none⟩ (fc nl cl)).setCell ⟨w.heap.size, 1, none⟩ (fc nt ct)) := Kpt.fr (Fr.of g5) (Nat.le_refl _) (fun i e => .inl (by cases e; omega))
  rw [hs] at l tk
  have HE : Keep (Has ((w2.setCell ⟨w.heap.size, 0, none⟩ (fc nl cl)).setCell ⟨w.heap.size, 1, none⟩ (fc nt ct)) w.heap.size [fc nl cl, fc nt ct] 132 ∧ w.grownBy ((w2.setCell ⟨w.heap.size, 0, none⟩ (fc nl cl)).setCell ⟨w.heap.size, 1, none⟩ (fc nt ct)) none ∧ LayC ((w2.setCell ⟨w.heap.size, 0, none⟩ (fc nl cl)).setCell ⟨w.heap.size, 1, none⟩ (fc nt ct)) w.heap.size ((w2.setCell ⟨w.heap.size, 0, none⟩ (fc nl cl)).setCell ⟨w.heap.size, 1, none⟩ (fc nt ct)).heap.size .U b o nl cl ∧ TakeC ((w2.setCell ⟨w.heap.size, 0, none⟩ (fc nl cl)).setCell ⟨w.heap.size, 1, none⟩ (fc nt ct)) w.heap.size ((w2.setCell ⟨w.heap.size, 0, none⟩ (fc nl cl)).setCell ⟨w.heap.size, 1, none⟩ (fc nt ct)).heap.size .U b o nt ct) :=
    ⟨(h0.setCell 0 (fc nl cl)).setCell 1 (fc nt ct), gr_new ((World.grownBy_alloc w (.cells #[.nilFunc, .nilFunc] 132) none).trans g) g5 (Nat.le_refl _), l.kept hk (by omega) g5.size, tk.kept hk (by omega) g5.size⟩
  clear h0 g5 hk l tk g
  go_wp2
  exact ret_cell rfl rfl HE.out.1 hd hr infoP rfl ⟨_, _, rfl, ⟨nl, cl, nt, ct, rfl, rfl, HE.out.2.2.1, HE.out.2.2.2⟩, HE.out.2.1⟩
set_option maxHeartbeats 8000000 in
set_option maxRecDepth 100000 in
theorem plainI (b o : Nat) (w : World) :
    Calls Tryz.prog 196 #[pa b o, iv 1] w fun e w' => ∃ vl vt, e = .returned (.agg #[vl, vt]) ∧ PartC w' w.heap.size w'.heap.size .I b o vl vt ∧ w.grownBy w' none := by
  obtain ⟨d, hd, hr⟩ := underP
  go_enter Tryz.func196, Tryz.ntmps196
  go_wp2_with fail
  refine (numI b o _).mono ?_
  rintro e w2 ⟨vl, vt, rfl, hp, g⟩
  have h0 : Has w2 w.heap.size [.nilFunc, .nilFunc] 132 := (Has.newA w #[.nilFunc, .nilFunc] 132).kept g (by simp)
  have c0 : w2.cell? ⟨w.heap.size, 0, none⟩ = some .nilFunc := h0.cellv 0 _ rfl
  have c1 : w2.cell? ⟨w.heap.size, 1, none⟩ = some .nilFunc := h0.cellv 1 _ rfl
  have z0 : w2.frozen? ⟨w.heap.size, 0, none⟩ = false := h0.frozen 0
  have z1 : w2.frozen? ⟨w.heap.size, 1, none⟩ = false := h0.frozen 1
  obtain ⟨nl, cl, nt, ct, rfl, rfl, l, tk⟩ := hp
  have hs : (w.alloc (.cells #[.nilFunc, .nilFunc] 132)).heap.size = w.heap.size + 1 := hs1 _ _
  have g5 : w2.grownBy ((w2.setCell ⟨w.heap.size, 0, none⟩ (fc nl cl)).setCell ⟨w.heap.size, 1, none⟩ (fc nt ct)) (some w.heap.size) := (gr_set _ _ _ _).trans (gr_set _ _ _ _)
  have hk : Kpt (w.heap.size + 1) w2.heap.size w2 ((w2.setCell ⟨w.heap.size, 0, none⟩ (fc nl cl)).setCell ⟨w.heap.size, 1, none⟩ (fc nt ct)) := Kpt.fr (Fr.of g5) (Nat.le_refl _) (fun i e => .inl (by cases e; omega))
  rw [hs] at l tk
  have HE : Keep (Has ((w2.setCell ⟨w.heap.size, 0, none⟩ (fc nl cl)).setCell ⟨w.heap.size, 1, none⟩ (fc nt ct)) w.heap.size [fc nl cl, fc nt ct] 132 ∧ w.grownBy ((w2.setCell ⟨w.heap.size, 0, none⟩ (fc nl cl)).setCell ⟨w.heap.size, 1, none⟩ (fc nt ct)) none ∧ LayC ((w2.setCell ⟨w.heap.size, 0, none⟩ (fc nl cl)).setCell ⟨w.heap.size, 1, none⟩ (fc nt ct)) w.heap.size ((w2.setCell ⟨w.heap.size, 0, none⟩ (fc nl cl)).setCell ⟨w.heap.size, 1, none⟩ (fc nt ct)).heap.size .I b o nl cl ∧ TakeC ((w2.setCell ⟨w.heap.size, 0, none⟩ (fc nl cl)).setCell ⟨w.heap.size, 1, none⟩ (fc nt ct)) w.heap.size ((w2.setCell ⟨w.heap.size, 0, none⟩ (fc nl cl)).setCell ⟨w.heap.size, 1, none⟩ (fc nt ct)).heap.size .I b o nt ct) :=
    ⟨(h0.setCell 0 (fc nl cl)).setCell 1 (fc nt ct), gr_new ((World.grownBy_alloc w (.cells #[.nilFunc, .nilFunc] 132) none).trans g) g5 (Nat.le_refl _), l.kept hk (by omega) g5.size, tk.kept hk (by omega) g5.size⟩
  clear h0 g5 hk l tk g
  go_wp2
  exact ret_cell rfl rfl HE.out.1 hd hr infoP rfl ⟨_, _, rfl, ⟨nl, cl, nt, ct, rfl, rfl, HE.out.2.2.1, HE.out.2.2.2⟩, HE.out.2.1⟩
set_option maxHeartbeats 8000000 in
set_option maxRecDepth 100000 in
theorem signL (b o : Nat) (w : World) :
    Calls Tryz.prog 198 #[pa b o] w fun e w' => ∃ vl vt, e = .returned (.agg #[vl, vt]) ∧ PartC w' w.heap.size w'.heap.size .S b o vl vt ∧ w.grownBy w' none := by
  obtain ⟨d, hd, hr⟩ := underP
  go_enter Tryz.func198, Tryz.ntmps198
  go_wp2_with fail
  refine (numL b o _).mono ?_
  rintro e w2 ⟨vl, vt, rfl, hp, g⟩
  have h0 : Has w2 w.heap.size [.nilFunc, .nilFunc] 132 := (Has.newA w #[.nilFunc, .nilFunc] 132).kept g (by simp)
  have c0 : w2.cell? ⟨w.heap.size, 0, none⟩ = some .nilFunc := h0.cellv 0 _ rfl
  have c1 : w2.cell? ⟨w.heap.size, 1, none⟩ = some .nilFunc := h0.cellv 1 _ rfl
  have z0 : w2.frozen? ⟨w.heap.size, 0, none⟩ = false := h0.frozen 0
  have z1 : w2.frozen? ⟨w.heap.size, 1, none⟩ = false := h0.frozen 1
  obtain ⟨nl, cl, nt, ct, rfl, rfl, l, tk⟩ := hp
  have hs : (w.alloc (.cells #[.nilFunc, .nilFunc] 132)).heap.size = w.heap.size + 1 := hs1 _ _
  have g5 : w2.grownBy ((w2.setCell ⟨w.heap.size, 0, none⟩ (fc nl cl)).setCell ⟨w.heap.size, 1, none⟩ (fc nt ct)) (some w.heap.size) := (gr_set _ _ _ _).trans (gr_set _ _ _ _)
  have hk : Kpt (w.heap.size + 1) w2.heap.size w2 ((w2.setCell ⟨w.heap.size, 0, none⟩ (fc nl cl)).setCell ⟨w.heap.size, 1, none⟩ (fc nt ct)) := Kpt.fr (Fr.of g5) (Nat.le_refl _) (fun i e => .inl (by cases e; omega))
  rw [hs] at l tk
  have HE : Keep (Has ((w2.setCell ⟨w.heap.size, 0, none⟩ (fc nl cl)).setCell ⟨w.heap.size, 1, none⟩ (fc nt ct)) w.heap.size [fc nl cl, fc nt ct] 132 ∧ w.grownBy ((w2.setCell ⟨w.heap.size, 0, none⟩ (fc nl cl)).setCell ⟨w.heap.size, 1, none⟩ (fc nt ct)) none ∧ LayC ((w2.setCell ⟨w.heap.size, 0, none⟩ (fc nl cl)).setCell ⟨w.heap.size, 1, none⟩ (fc nt ct)) w.heap.size ((w2.setCell ⟨w.heap.size, 0, none⟩ (fc nl cl)).setCell ⟨w.heap.size, 1, none⟩ (fc nt ct)).heap.size .S b o nl cl ∧ TakeC ((w2.setCell ⟨w.heap.size, 0, none⟩ (fc nl cl)).setCell ⟨w.heap.size, 1, none⟩ (fc nt ct)) w.heap.size ((w2.setCell ⟨w.heap.size, 0, none⟩ (fc nl cl)).setCell ⟨w.heap.size, 1, none⟩ (fc nt ct)).heap.size .S b o nt ct) :=
    ⟨(h0.setCell 0 (fc nl cl)).setCell 1 (fc nt ct), gr_new ((World.grownBy_alloc w (.cells #[.nilFunc, .nilFunc] 132) none).trans g) g5 (Nat.le_refl _), l.kept hk (by omega) g5.size, tk.kept hk (by omega) g5.size⟩
  clear h0 g5 hk l tk g
  go_wp2
  exact ret_cell rfl rfl HE.out.1 hd hr infoP rfl ⟨_, _, rfl, ⟨nl, cl, nt, ct, rfl, rfl, HE.out.2.2.1, HE.out.2.2.2⟩, HE.out.2.1⟩
set_option maxHeartbeats 8000000 in
set_option maxRecDepth 100000 in
theorem signN (b o : Nat) (w : World) :
    Calls Tryz.prog 199 #[pa b o] w fun e w' => ∃ vl vt, e = .returned (.agg #[vl, vt]) ∧ PartC w' w.heap.size w'.heap.size .S b o vl vt ∧ w.grownBy w' none := by
  obtain ⟨d, hd, hr⟩ := underP
  go_enter Tryz.func199, Tryz.ntmps199
  go_wp2_with fail
  refine (numN b o _).mono ?_
  rintro e w2 ⟨vl, vt, rfl, hp, g⟩
  have h0 : Has w2 w.heap.size [.nilFunc, .nilFunc] 132 := (Has.newA w #[.nilFunc, .nilFunc] 132).kept g (by simp)
  have c0 : w2.cell? ⟨w.heap.size, 0, none⟩ = some .nilFunc := h0.cellv 0 _ rfl
  have c1 : w2.cell? ⟨w.heap.size, 1, none⟩ = some .nilFunc := h0.cellv 1 _ rfl
  have z0 : w2.frozen? ⟨w.heap.size, 0, none⟩ = false := h0.frozen 0
  have z1 : w2.frozen? ⟨w.heap.size, 1, none⟩ = false := h0.frozen 1
  obtain ⟨nl, cl, nt, ct, rfl, rfl, l, tk⟩ := hp
  have hs : (w.alloc (.cells #[.nilFunc, .nilFunc] 132)).heap.size = w.heap.size + 1 := hs1 _ _
  have g5 : w2.grownBy ((w2.setCell ⟨w.heap.size, 0, none⟩ (fc nl cl)).setCell ⟨w.heap.size, 1, none⟩ (fc nt ct)) (some w.heap.size) := (gr_set _ _ _ _).trans (gr_set _ _ _ _)
  have hk : Kpt (w.heap.size + 1) w2.heap.size w2 ((w2.setCell ⟨w.heap.size, 0, none⟩ (fc nl cl)).setCell ⟨w.heap.size, 1, none⟩ (fc nt ct)) := Kpt.fr (Fr.of g5) (Nat.le_refl _) (fun i e => .inl (by cases e; omega))
  rw [hs] at l tk
  have HE : Keep (Has ((w2.setCell ⟨w.heap.size, 0, none⟩ (fc nl cl)).setCell ⟨w.heap.size, 1, none⟩ (fc nt ct)) w.heap.size [fc nl cl, fc nt ct] 132 ∧ w.grownBy ((w2.setCell ⟨w.heap.size, 0, none⟩ (fc nl cl)).setCell ⟨w.heap.size, 1, none⟩ (fc nt ct)) none ∧ LayC ((w2.setCell ⟨w.heap.size, 0, none⟩ (fc nl cl)).setCell ⟨w.heap.size, 1, none⟩ (fc nt ct)) w.heap.size ((w2.setCell ⟨w.heap.size, 0, none⟩ (fc nl cl)).setCell ⟨w.heap.size, 1, none⟩ (fc nt ct)).heap.size .S b o nl cl ∧ TakeC ((w2.setCell ⟨w.heap.size, 0, none⟩ (fc nl cl)).setCell ⟨w.heap.size, 1, none⟩ (fc nt ct)) w.heap.size ((w2.setCell ⟨w.heap.size, 0, none⟩ (fc nl cl)).setCell ⟨w.heap.size, 1, none⟩ (fc nt ct)).heap.size .S b o nt ct) :=
    ⟨(h0.setCell 0 (fc nl cl)).setCell 1 (fc nt ct), gr_new ((World.grownBy_alloc w (.cells #[.nilFunc, .nilFunc] 132) none).trans g) g5 (Nat.le_refl _), l.kept hk (by omega) g5.size, tk.kept hk (by omega) g5.size⟩
  clear h0 g5 hk l tk g
  go_wp2
  exact ret_cell rfl rfl HE.out.1 hd hr infoP rfl ⟨_, _, rfl, ⟨nl, cl, nt, ct, rfl, rfl, HE.out.2.2.1, HE.out.2.2.2⟩, HE.out.2.1⟩
set_option maxHeartbeats 8000000 in
set_option maxRecDepth 100000 in
theorem textP (b o : Nat) (w : World) :
    Calls Tryz.prog 197 #[pa b o] w fun e w' => ∃ vl vt, e = .returned (.agg #[vl, vt]) ∧ PartC w' w.heap.size w'.heap.size .T b o vl vt ∧ w.grownBy w' none := by
  have hmf : MF := fun _ _ _ _ => rfl
  obtain ⟨d, hd, hr⟩ := underP
  obtain ⟨w1, hw1⟩ : ∃ q, ((w.alloc (.cells #[pa b o] 185)).alloc (.cells #[.nilFunc, .nilFunc] 132)).alloc (.cells #[fv 142] 250) = q := ⟨_, rfl⟩
  obtain ⟨w2, hw2⟩ : ∃ q, w1.alloc (.cells #[fv 220] 251) = q := ⟨_, rfl⟩
  have hsz : w1.heap.size = w.heap.size + 3 := by rw [← hw1]; simp
  have i0 : Has w2 w.heap.size [pa b o] 185 := by rw [← hw2, ← hw1]; exact (((Has.newA w #[pa b o] _).alloc _).alloc _).alloc _
  have i1 : Has w2 (w.heap.size + 1) [.nilFunc, .nilFunc] 132 := by rw [← hw2, ← hw1]; exact ((hasA #[.nilFunc, .nilFunc] _ (by simp)).alloc _).alloc _
  have i2 : Has w2 (w.heap.size + 2) [fv 142] 250 := by rw [← hw2, ← hw1]; exact (hasA #[fv 142] _ (by simp)).alloc _
  have i3 : Has w2 (w.heap.size + 3) [fv 220] 251 := by rw [← hw2]; exact hasA #[fv 220] _ hsz
  have g2 : w.grownBy w2 none := by rw [← hw2, ← hw1]; exact (((gr_al _ _).trans (gr_al _ _)).trans (gr_al _ _)).trans (gr_al _ _)
  have hsz2 : w2.heap.size = w.heap.size + 4 := by rw [← hw2]; simp [hsz]
  have c0 : w2.cell? ⟨w.heap.size + 1, 0, none⟩ = some .nilFunc := i1.cellv 0 _ rfl
  have c1 : w2.cell? ⟨w.heap.size + 1, 1, none⟩ = some .nilFunc := i1.cellv 1 _ rfl
  have z0 : w2.frozen? ⟨w.heap.size + 1, 0, none⟩ = false := i1.frozen 0
  have z1 : w2.frozen? ⟨w.heap.size + 1, 1, none⟩ = false := i1.frozen 1
  have HI := Keep.mk (And.intro i0 (And.intro i1 (And.intro i2 (And.intro i3 (And.intro g2 hsz2)))))
  clear i0 i1 i2 i3 g2 hsz2
  go_enter Tryz.func197, Tryz.ntmps197
  go_wp2
  obtain ⟨i0, i1, i2, i3, g2, hsz2⟩ := HI.out
  obtain ⟨X, hX⟩ : ∃ X, fc 221 #[pa (w.heap.size + 2) 0, pa w.heap.size 0] = X := ⟨_, rfl⟩
  obtain ⟨Y, hY⟩ : ∃ Y, fc 222 #[pa (w.heap.size + 3) 0, pa w.heap.size 0] = Y := ⟨_, rfl⟩
  show bodyPost _ _ _ _ _ ((w2.setCell ⟨w.heap.size + 1, 0, none⟩ (fc 221 #[pa (w.heap.size + 2) 0, pa w.heap.size 0])).setCell ⟨w.heap.size + 1, 1, none⟩ (fc 222 #[pa (w.heap.size + 3) 0, pa w.heap.size 0]))
  rw [hX, hY]
  have g5 : w2.grownBy ((w2.setCell ⟨w.heap.size + 1, 0, none⟩ X).setCell ⟨w.heap.size + 1, 1, none⟩ Y) (some (w.heap.size + 1)) := (gr_set _ _ _ _).trans (gr_set _ _ _ _)
  have h5 := (i1.setCell 0 X).setCell 1 Y
  have n0 : some w.heap.size ≠ some (w.heap.size + 1) := fun e => by have := Option.some.inj e; omega
  have n2 : some (w.heap.size + 2) ≠ some (w.heap.size + 1) := fun e => by have := Option.some.inj e; omega
  have n3 : some (w.heap.size + 3) ≠ some (w.heap.size + 1) := fun e => by have := Option.some.inj e; omega
  have hs5 := g5.size
  refine ret_cell rfl rfl h5 hd hr infoP rfl ⟨X, Y, rfl, ⟨221, _, 222, _, hX.symm, hY.symm, ?_, ?_⟩, gr_new g2 g5 (by omega)⟩
  · exact layT _ _ _ b o (w.heap.size + 2) w.heap.size (i2.kept g5 n2) (i0.kept g5 n0) ⟨by omega, by omega⟩ ⟨by omega, by omega⟩
  · exact takT _ _ _ b o (w.heap.size + 3) w.heap.size (i3.kept g5 n3) (i0.kept g5 n0) ⟨by omega, by omega⟩ ⟨by omega, by omega⟩
set_option maxHeartbeats 8000000 in
set_option maxRecDepth 100000 in
theorem countP (b o : Nat) (w : World) :
    Calls Tryz.prog 200 #[pa b o] w fun e w' => ∃ vl vt, e = .returned (.agg #[vl, vt]) ∧ PartC w' w.heap.size w'.heap.size .C b o vl vt ∧ w.grownBy w' none := by
  have hmf : MF := fun _ _ _ _ => rfl
  obtain ⟨d, hd, hr⟩ := underP
  go_enter Tryz.func200, Tryz.ntmps200
  go_wp2
  refine ret_cell rfl rfl (hasA (k := w.heap.size + 1) #[fc 225 #[pa w.heap.size 0], fc 226 #[pa w.heap.size 0]] 132 (by simp)) hd hr infoP rfl ⟨_, _, rfl, ⟨225, _, 226, _, rfl, rfl, ?_, ?_⟩, ?_⟩
  · exact layN1 _ _ _ b o w.heap.size ((Has.newA w #[pa b o] 236).alloc _) ⟨by simp, by simp <;> omega⟩
  · exact takC _ _ _ b o w.heap.size ((Has.newA w #[pa b o] 236).alloc _) ⟨by simp, by simp <;> omega⟩
  · exact (gr_al _ _).trans (gr_al _ _)
end Go.Proofs.YtldnpebnpbahjaaGreatDoor.Pk.Sn
