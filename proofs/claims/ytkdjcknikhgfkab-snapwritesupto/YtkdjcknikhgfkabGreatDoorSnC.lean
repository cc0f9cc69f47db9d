import Derived.Test.YtkdjcknikhgfkabGreatDoorSnB
/- the parts of a view: how they are made -/
namespace Go.Proofs.YtkdjcknikhgfkabGreatDoor.Pk.Sn
open Go Go.RowKit

def PartC (w : World) (lo hi : Nat) (m : Mk) (b o : Nat) (vl vt : Value) : Prop := ∃ nl cl nt ct, vl = fc nl cl ∧ vt = fc nt ct ∧ LayC w lo hi m b o nl cl ∧ TakeC w lo hi m b o nt ct
theorem PartC.kept {w w' : World} {lo hi lo' hi' : Nat} {m : Mk} {b o : Nat} {vl vt : Value} (h : PartC w lo hi m b o vl vt) (k : Kpt lo hi w w') (h1 : lo' ≤ lo) (h2 : hi ≤ hi') : PartC w' lo' hi' m b o vl vt := by
  obtain ⟨nl, cl, nt, ct, e1, e2, l, t⟩ := h
  exact ⟨nl, cl, nt, ct, e1, e2, l.kept k h1 h2, t.kept k h1 h2⟩
set_option maxRecDepth 100000 in
theorem underP : ∃ d, Tryz.prog.underlying 51 = some d ∧ d.isRow = true := ⟨_, Tryz.underlying51, rfl⟩
set_option maxRecDepth 100000 in
theorem infoP : (Tryz.prog.info? 51).map (·.size) = some 2 := by kernel_rfl
abbrev MF : Prop := ∀ (fn : Fn) (first cap : Array Value) (w : World), (Instr.makeFunc fn first cap).run Tryz.prog w = .ok (.func fn first cap) w
theorem hs1 (w : World) (x : Obj) : (w.alloc x).heap.size = w.heap.size + 1 := by simp
theorem hasA {w : World} {k : Nat} (a : Array Value) (s : TypeId) (h : w.heap.size = k) : Has (w.alloc (.cells a s)) k a.toList s := by
  rw [← h]; exact Has.newA w a s
theorem gr_al (w : World) (x : Obj) : w.grownBy (w.alloc x) none := World.grownBy_alloc _ _ _
set_option maxHeartbeats 8000000 in
set_option maxRecDepth 100000 in
theorem numU (b o : Nat) (w : World) :
    Calls Tryz.prog 70 #[pa b o, iv 8, fv 71, fv 72] w fun e w' => ∃ vl vt, e = .returned (.agg #[vl, vt]) ∧ PartC w' w.heap.size w'.heap.size .U b o vl vt ∧ w.grownBy w' none := by
  have hmf : MF := fun _ _ _ _ => rfl
  obtain ⟨d, hd, hr⟩ := underP
  go_enter Tryz.func70, Tryz.ntmps70
  go_wp2
  refine ret_cell rfl rfl (hasA (k := w.heap.size + 4) #[fc 111 #[pa (w.heap.size + 2) 0, pa w.heap.size 0, pa (w.heap.size + 1) 0], fc 112 #[pa (w.heap.size + 3) 0, pa (w.heap.size + 1) 0, pa w.heap.size 0]] 51 (by simp)) hd hr infoP rfl ⟨_, _, rfl, ⟨111, _, 112, _, rfl, rfl, ?_, ?_⟩, ?_⟩
  · exact layU _ _ _ b o (w.heap.size + 2) w.heap.size (w.heap.size + 1) ((((hasA #[fv 71] 138 (by simp)).alloc _).alloc _)) (((((Has.newA w #[pa b o] 94).alloc _).alloc _).alloc _).alloc _) (((((hasA #[iv 8] 3 (by simp)).alloc _).alloc _).alloc _)) ⟨by simp, by simp <;> omega⟩ ⟨by simp, by simp <;> omega⟩ ⟨by simp, by simp <;> omega⟩
  · exact takU _ _ _ b o (w.heap.size + 3) w.heap.size (w.heap.size + 1) ((hasA #[fv 72] 139 (by simp)).alloc _) (((((Has.newA w #[pa b o] 94).alloc _).alloc _).alloc _).alloc _) (((((hasA #[iv 8] 3 (by simp)).alloc _).alloc _).alloc _)) ⟨by simp, by simp <;> omega⟩ ⟨by simp, by simp <;> omega⟩ ⟨by simp, by simp <;> omega⟩
  · exact ((((gr_al _ _).trans (gr_al _ _)).trans (gr_al _ _)).trans (gr_al _ _)).trans (gr_al _ _)
set_option maxHeartbeats 8000000 in
set_option maxRecDepth 100000 in
theorem numI (b o : Nat) (w : World) :
    Calls Tryz.prog 73 #[pa b o, iv 1, fv 71, fv 72] w fun e w' => ∃ vl vt, e = .returned (.agg #[vl, vt]) ∧ PartC w' w.heap.size w'.heap.size .I b o vl vt ∧ w.grownBy w' none := by
  have hmf : MF := fun _ _ _ _ => rfl
  obtain ⟨d, hd, hr⟩ := underP
  go_enter Tryz.func73, Tryz.ntmps73
  go_wp2
  refine ret_cell rfl rfl (hasA (k := w.heap.size + 4) #[fc 116 #[pa (w.heap.size + 2) 0, pa w.heap.size 0, pa (w.heap.size + 1) 0], fc 117 #[pa (w.heap.size + 3) 0, pa (w.heap.size + 1) 0, pa w.heap.size 0]] 51 (by simp)) hd hr infoP rfl ⟨_, _, rfl, ⟨116, _, 117, _, rfl, rfl, ?_, ?_⟩, ?_⟩
  · exact layI _ _ _ b o (w.heap.size + 2) w.heap.size (w.heap.size + 1) ((((hasA #[fv 71] 138 (by simp)).alloc _).alloc _)) (((((Has.newA w #[pa b o] 96).alloc _).alloc _).alloc _).alloc _) (((((hasA #[iv 1] 3 (by simp)).alloc _).alloc _).alloc _)) ⟨by simp, by simp <;> omega⟩ ⟨by simp, by simp <;> omega⟩ ⟨by simp, by simp <;> omega⟩
  · exact takI _ _ _ b o (w.heap.size + 3) w.heap.size (w.heap.size + 1) ((hasA #[fv 72] 139 (by simp)).alloc _) (((((Has.newA w #[pa b o] 96).alloc _).alloc _).alloc _).alloc _) (((((hasA #[iv 1] 3 (by simp)).alloc _).alloc _).alloc _)) ⟨by simp, by simp <;> omega⟩ ⟨by simp, by simp <;> omega⟩ ⟨by simp, by simp <;> omega⟩
  · exact ((((gr_al _ _).trans (gr_al _ _)).trans (gr_al _ _)).trans (gr_al _ _)).trans (gr_al _ _)
set_option maxHeartbeats 8000000 in
set_option maxRecDepth 100000 in
theorem numL (b o : Nat) (w : World) :
    Calls Tryz.prog 78 #[pa b o, iv 8, fv 79, fv 80] w fun e w' => ∃ vl vt, e = .returned (.agg #[vl, vt]) ∧ PartC w' w.heap.size w'.heap.size .S b o vl vt ∧ w.grownBy w' none := by
  have hmf : MF := fun _ _ _ _ => rfl
  obtain ⟨d, hd, hr⟩ := underP
  go_enter Tryz.func78, Tryz.ntmps78
  go_wp2
  refine ret_cell rfl rfl (hasA (k := w.heap.size + 4) #[fc 119 #[pa (w.heap.size + 2) 0, pa w.heap.size 0, pa (w.heap.size + 1) 0], fc 120 #[pa (w.heap.size + 3) 0, pa (w.heap.size + 1) 0, pa w.heap.size 0]] 51 (by simp)) hd hr infoP rfl ⟨_, _, rfl, ⟨119, _, 120, _, rfl, rfl, ?_, ?_⟩, ?_⟩
  · exact layL _ _ _ b o (w.heap.size + 2) w.heap.size (w.heap.size + 1) ((((hasA #[fv 79] 144 (by simp)).alloc _).alloc _)) (((((Has.newA w #[pa b o] 100).alloc _).alloc _).alloc _).alloc _) (((((hasA #[iv 8] 3 (by simp)).alloc _).alloc _).alloc _)) ⟨by simp, by simp <;> omega⟩ ⟨by simp, by simp <;> omega⟩ ⟨by simp, by simp <;> omega⟩
  · exact takL _ _ _ b o (w.heap.size + 3) w.heap.size (w.heap.size + 1) ((hasA #[fv 80] 145 (by simp)).alloc _) (((((Has.newA w #[pa b o] 100).alloc _).alloc _).alloc _).alloc _) (((((hasA #[iv 8] 3 (by simp)).alloc _).alloc _).alloc _)) ⟨by simp, by simp <;> omega⟩ ⟨by simp, by simp <;> omega⟩ ⟨by simp, by simp <;> omega⟩
  · exact ((((gr_al _ _).trans (gr_al _ _)).trans (gr_al _ _)).trans (gr_al _ _)).trans (gr_al _ _)
set_option maxHeartbeats 8000000 in
set_option maxRecDepth 100000 in
theorem numN (b o : Nat) (w : World) :
    Calls Tryz.prog 81 #[pa b o, iv 8, fv 79, fv 80] w fun e w' => ∃ vl vt, e = .returned (.agg #[vl, vt]) ∧ PartC w' w.heap.size w'.heap.size .S b o vl vt ∧ w.grownBy w' none := by
  have hmf : MF := fun _ _ _ _ => rfl
  obtain ⟨d, hd, hr⟩ := underP
  go_enter Tryz.func81, Tryz.ntmps81
  go_wp2
  refine ret_cell rfl rfl (hasA (k := w.heap.size + 4) #[fc 122 #[pa (w.heap.size + 2) 0, pa w.heap.size 0, pa (w.heap.size + 1) 0], fc 123 #[pa (w.heap.size + 3) 0, pa (w.heap.size + 1) 0, pa w.heap.size 0]] 51 (by simp)) hd hr infoP rfl ⟨_, _, rfl, ⟨122, _, 123, _, rfl, rfl, ?_, ?_⟩, ?_⟩
  · exact layN _ _ _ b o (w.heap.size + 2) w.heap.size (w.heap.size + 1) ((((hasA #[fv 79] 144 (by simp)).alloc _).alloc _)) (((((Has.newA w #[pa b o] 96).alloc _).alloc _).alloc _).alloc _) (((((hasA #[iv 8] 3 (by simp)).alloc _).alloc _).alloc _)) ⟨by simp, by simp <;> omega⟩ ⟨by simp, by simp <;> omega⟩ ⟨by simp, by simp <;> omega⟩
  · exact takN _ _ _ b o (w.heap.size + 3) w.heap.size (w.heap.size + 1) ((hasA #[fv 80] 145 (by simp)).alloc _) (((((Has.newA w #[pa b o] 96).alloc _).alloc _).alloc _).alloc _) (((((hasA #[iv 8] 3 (by simp)).alloc _).alloc _).alloc _)) ⟨by simp, by simp <;> omega⟩ ⟨by simp, by simp <;> omega⟩ ⟨by simp, by simp <;> omega⟩
  · exact ((((gr_al _ _).trans (gr_al _ _)).trans (gr_al _ _)).trans (gr_al _ _)).trans (gr_al _ _)
set_option maxHeartbeats 8000000 in
set_option maxRecDepth 100000 in
theorem plainU (b o : Nat) (w : World) :
    Calls Tryz.prog 42 #[pa b o, iv 8] w fun e w' => ∃ vl vt, e = .returned (.agg #[vl, vt]) ∧ PartC w' w.heap.size w'.heap.size .U b o vl vt ∧ w.grownBy w' none := by
  obtain ⟨d, hd, hr⟩ := underP
  go_enter Tryz.func42, Tryz.ntmps42
  go_wp2_with fail
  refine (numU b o _).mono ?_
  rintro e w2 ⟨vl, vt, rfl, hp, g⟩
  have h0 : Has w2 w.heap.size [.nilFunc, .nilFunc] 51 := (Has.newA w #[.nilFunc, .nilFunc] 51).kept g (by simp)
  have c0 : w2.cell? ⟨w.heap.size, 0, none⟩ = some .nilFunc := h0.cellv 0 _ rfl
  have c1 : w2.cell? ⟨w.heap.size, 1, none⟩ = some .nilFunc := h0.cellv 1 _ rfl
  have z0 : w2.frozen? ⟨w.heap.size, 0, none⟩ = false := h0.frozen 0
  have z1 : w2.frozen? ⟨w.heap.size, 1, none⟩ = false := h0.frozen 1
  obtain ⟨nl, cl, nt, ct, rfl, rfl, l, tk⟩ := hp
  have hs : (w.alloc (.cells #[.nilFunc, .nilFunc] 51)).heap.size = w.heap.size + 1 := hs1 _ _
  have g5 : w2.grownBy ((w2.setCell ⟨w.heap.size, 0, none⟩ (fc nl cl)).setCell ⟨w.heap.size, 1, none⟩ (fc nt ct)) (some w.heap.size) := (gr_set _ _ _ _).trans (gr_set _ _ _ _)
  have hk : Kpt (w.heap.size + 1) w2.heap.size w2 ((w2.setCell ⟨w.heap.size, 0, none⟩ (fc nl cl)).setCell ⟨w.heap.size, 1, none⟩ (fc nt ct)) := Kpt.fr (Fr.of g5) (Nat.le_refl _) (fun i e => .inl (by cases e; omega))
  rw [hs] at l tk
  have HE : Keep (Has ((w2.setCell ⟨w.heap.size, 0, none⟩ (fc nl cl)).setCell ⟨w.heap.size, 1, none⟩ (fc nt ct)) w.heap.size [fc nl cl, fc nt ct] 51 ∧ w.grownBy ((w2.setCell ⟨w.heap.size, 0, none⟩ (fc nl cl)).setCell ⟨w.heap.size, 1, none⟩ (fc nt ct)) none ∧ LayC ((w2.setCell ⟨w.heap.size, 0, none⟩ (fc nl cl)).setCell ⟨w.heap.size, 1, none⟩ (fc nt ct)) w.heap.size ((w2.setCell ⟨w.heap.size, 0, none⟩ (fc nl cl)).setCell ⟨w.heap.size, 1, none⟩ (fc nt ct)).heap.size .U b o nl cl ∧ TakeC ((w2.setCell ⟨w.heap.size, 0, none⟩ (fc nl cl)).setCell ⟨w.heap.size, 1, none⟩ (fc nt ct)) w.heap.size ((w2.setCell ⟨w.heap.size, 0, none⟩ (fc nl cl)).setCell ⟨w.heap.size, 1, none⟩ (fc nt ct)).heap.size .U b o nt ct) :=
    ⟨(h0.setCell 0 (fc nl cl)).setCell 1 (fc nt ct), gr_new ((World.grownBy_alloc w (.cells #[.nilFunc, .nilFunc] 51) none).trans g) g5 (Nat.le_refl _), l.kept hk (by omega) g5.size, tk.kept hk (by omega) g5.size⟩
  clear h0 g5 hk l tk g
  go_wp2
  exact ret_cell rfl rfl HE.out.1 hd hr infoP rfl ⟨_, _, rfl, ⟨nl, cl, nt, ct, rfl, rfl, HE.out.2.2.1, HE.out.2.2.2⟩, HE.out.2.1⟩
set_option maxHeartbeats 8000000 in
set_option maxRecDepth 100000 in
theorem plainI (b o : Nat) (w : World) :
    Calls Tryz.prog 43 #[pa b o, iv 1] w fun e w' => ∃ vl vt, e = .returned (.agg #[vl, vt]) ∧ PartC w' w.heap.size w'.heap.size .I b o vl vt ∧ w.grownBy w' none := by
  obtain ⟨d, hd, hr⟩ := underP
  go_enter Tryz.func43, Tryz.ntmps43
  go_wp2_with fail
  refine (numI b o _).mono ?_
  rintro e w2 ⟨vl, vt, rfl, hp, g⟩
  have h0 : Has w2 w.heap.size [.nilFunc, .nilFunc] 51 := (Has.newA w #[.nilFunc, .nilFunc] 51).kept g (by simp)
  have c0 : w2.cell? ⟨w.heap.size, 0, none⟩ = some .nilFunc := h0.cellv 0 _ rfl
  have c1 : w2.cell? ⟨w.heap.size, 1, none⟩ = some .nilFunc := h0.cellv 1 _ rfl
  have z0 : w2.frozen? ⟨w.heap.size, 0, none⟩ = false := h0.frozen 0
  have z1 : w2.frozen? ⟨w.heap.size, 1, none⟩ = false := h0.frozen 1
  obtain ⟨nl, cl, nt, ct, rfl, rfl, l, tk⟩ := hp
  have hs : (w.alloc (.cells #[.nilFunc, .nilFunc] 51)).heap.size = w.heap.size + 1 := hs1 _ _
  have g5 : w2.grownBy ((w2.setCell ⟨w.heap.size, 0, none⟩ (fc nl cl)).setCell ⟨w.heap.size, 1, none⟩ (fc nt ct)) (some w.heap.size) := (gr_set _ _ _ _).trans (gr_set _ _ _ _)
  have hk : Kpt (w.heap.size + 1) w2.heap.size w2 ((w2.setCell ⟨w.heap.size, 0, none⟩ (fc nl cl)).setCell ⟨w.heap.size, 1, none⟩ (fc nt ct)) := Kpt.fr (Fr.of g5) (Nat.le_refl _) (fun i e => .inl (by cases e; omega))
  rw [hs] at l tk
  have HE : Keep (Has ((w2.setCell ⟨w.heap.size, 0, none⟩ (fc nl cl)).setCell ⟨w.heap.size, 1, none⟩ (fc nt ct)) w.heap.size [fc nl cl, fc nt ct] 51 ∧ w.grownBy ((w2.setCell ⟨w.heap.size, 0, none⟩ (fc nl cl)).setCell ⟨w.heap.size, 1, none⟩ (fc nt ct)) none ∧ LayC ((w2.setCell ⟨w.heap.size, 0, none⟩ (fc nl cl)).setCell ⟨w.heap.size, 1, none⟩ (fc nt ct)) w.heap.size ((w2.setCell ⟨w.heap.size, 0, none⟩ (fc nl cl)).setCell ⟨w.heap.size, 1, none⟩ (fc nt ct)).heap.size .I b o nl cl ∧ TakeC ((w2.setCell ⟨w.heap.size, 0, none⟩ (fc nl cl)).setCell ⟨w.heap.size, 1, none⟩ (fc nt ct)) w.heap.size ((w2.setCell ⟨w.heap.size, 0, none⟩ (fc nl cl)).setCell ⟨w.heap.size, 1, none⟩ (fc nt ct)).heap.size .I b o nt ct) :=
    ⟨(h0.setCell 0 (fc nl cl)).setCell 1 (fc nt ct), gr_new ((World.grownBy_alloc w (.cells #[.nilFunc, .nilFunc] 51) none).trans g) g5 (Nat.le_refl _), l.kept hk (by omega) g5.size, tk.kept hk (by omega) g5.size⟩
  clear h0 g5 hk l tk g
  go_wp2
  exact ret_cell rfl rfl HE.out.1 hd hr infoP rfl ⟨_, _, rfl, ⟨nl, cl, nt, ct, rfl, rfl, HE.out.2.2.1, HE.out.2.2.2⟩, HE.out.2.1⟩
set_option maxHeartbeats 8000000 in
set_option maxRecDepth 100000 in
theorem signL (b o : Nat) (w : World) :
    Calls Tryz.prog 45 #[pa b o] w fun e w' => ∃ vl vt, e = .returned (.agg #[vl, vt]) ∧ PartC w' w.heap.size w'.heap.size .S b o vl vt ∧ w.grownBy w' none := by
  obtain ⟨d, hd, hr⟩ := underP
  go_enter Tryz.func45, Tryz.ntmps45
  go_wp2_with fail
  refine (numL b o _).mono ?_
  rintro e w2 ⟨vl, vt, rfl, hp, g⟩
  have h0 : Has w2 w.heap.size [.nilFunc, .nilFunc] 51 := (Has.newA w #[.nilFunc, .nilFunc] 51).kept g (by simp)
  have c0 : w2.cell? ⟨w.heap.size, 0, none⟩ = some .nilFunc := h0.cellv 0 _ rfl
  have c1 : w2.cell? ⟨w.heap.size, 1, none⟩ = some .nilFunc := h0.cellv 1 _ rfl
  have z0 : w2.frozen? ⟨w.heap.size, 0, none⟩ = false := h0.frozen 0
  have z1 : w2.frozen? ⟨w.heap.size, 1, none⟩ = false := h0.frozen 1
  obtain ⟨nl, cl, nt, ct, rfl, rfl, l, tk⟩ := hp
  have hs : (w.alloc (.cells #[.nilFunc, .nilFunc] 51)).heap.size = w.heap.size + 1 := hs1 _ _
  have g5 : w2.grownBy ((w2.setCell ⟨w.heap.size, 0, none⟩ (fc nl cl)).setCell ⟨w.heap.size, 1, none⟩ (fc nt ct)) (some w.heap.size) := (gr_set _ _ _ _).trans (gr_set _ _ _ _)
  have hk : Kpt (w.heap.size + 1) w2.heap.size w2 ((w2.setCell ⟨w.heap.size, 0, none⟩ (fc nl cl)).setCell ⟨w.heap.size, 1, none⟩ (fc nt ct)) := Kpt.fr (Fr.of g5) (Nat.le_refl _) (fun i e => .inl (by cases e; omega))
  rw [hs] at l tk
  have HE : Keep (Has ((w2.setCell ⟨w.heap.size, 0, none⟩ (fc nl cl)).setCell ⟨w.heap.size, 1, none⟩ (fc nt ct)) w.heap.size [fc nl cl, fc nt ct] 51 ∧ w.grownBy ((w2.setCell ⟨w.heap.size, 0, none⟩ (fc nl cl)).setCell ⟨w.heap.size, 1, none⟩ (fc nt ct)) none ∧ LayC ((w2.setCell ⟨w.heap.size, 0, none⟩ (fc nl cl)).setCell ⟨w.heap.size, 1, none⟩ (fc nt ct)) w.heap.size ((w2.setCell ⟨w.heap.size, 0, none⟩ (fc nl cl)).setCell ⟨w.heap.size, 1, none⟩ (fc nt ct)).heap.size .S b o nl cl ∧ TakeC ((w2.setCell ⟨w.heap.size, 0, none⟩ (fc nl cl)).setCell ⟨w.heap.size, 1, none⟩ (fc nt ct)) w.heap.size ((w2.setCell ⟨w.heap.size, 0, none⟩ (fc nl cl)).setCell ⟨w.heap.size, 1, none⟩ (fc nt ct)).heap.size .S b o nt ct) :=
    ⟨(h0.setCell 0 (fc nl cl)).setCell 1 (fc nt ct), gr_new ((World.grownBy_alloc w (.cells #[.nilFunc, .nilFunc] 51) none).trans g) g5 (Nat.le_refl _), l.kept hk (by omega) g5.size, tk.kept hk (by omega) g5.size⟩
  clear h0 g5 hk l tk g
  go_wp2
  exact ret_cell rfl rfl HE.out.1 hd hr infoP rfl ⟨_, _, rfl, ⟨nl, cl, nt, ct, rfl, rfl, HE.out.2.2.1, HE.out.2.2.2⟩, HE.out.2.1⟩
set_option maxHeartbeats 8000000 in
set_option maxRecDepth 100000 in
theorem signN (b o : Nat) (w : World) :
    Calls Tryz.prog 46 #[pa b o] w fun e w' => ∃ vl vt, e = .returned (.agg #[vl, vt]) ∧ PartC w' w.heap.size w'.heap.size .S b o vl vt ∧ w.grownBy w' none := by
  obtain ⟨d, hd, hr⟩ := underP
  go_enter Tryz.func46, Tryz.ntmps46
  go_wp2_with fail
  refine (numN b o _).mono ?_
  rintro e w2 ⟨vl, vt, rfl, hp, g⟩
  have h0 : Has w2 w.heap.size [.nilFunc, .nilFunc] 51 := (Has.newA w #[.nilFunc, .nilFunc] 51).kept g (by simp)
  have c0 : w2.cell? ⟨w.heap.size, 0, none⟩ = some .nilFunc := h0.cellv 0 _ rfl
  have c1 : w2.cell? ⟨w.heap.size, 1, none⟩ = some .nilFunc := h0.cellv 1 _ rfl
  have z0 : w2.frozen? ⟨w.heap.size, 0, none⟩ = false := h0.frozen 0
  have z1 : w2.frozen? ⟨w.heap.size, 1, none⟩ = false := h0.frozen 1
  obtain ⟨nl, cl, nt, ct, rfl, rfl, l, tk⟩ := hp
  have hs : (w.alloc (.cells #[.nilFunc, .nilFunc] 51)).heap.size = w.heap.size + 1 := hs1 _ _
  have g5 : w2.grownBy ((w2.setCell ⟨w.heap.size, 0, none⟩ (fc nl cl)).setCell ⟨w.heap.size, 1, none⟩ (fc nt ct)) (some w.heap.size) := (gr_set _ _ _ _).trans (gr_set _ _ _ _)
  have hk : Kpt (w.heap.size + 1) w2.heap.size w2 ((w2.setCell ⟨w.heap.size, 0, none⟩ (fc nl cl)).setCell ⟨w.heap.size, 1, none⟩ (fc nt ct)) := Kpt.fr (Fr.of g5) (Nat.le_refl _) (fun i e => .inl (by cases e; omega))
  rw [hs] at l tk
  have HE : Keep (Has ((w2.setCell ⟨w.heap.size, 0, none⟩ (fc nl cl)).setCell ⟨w.heap.size, 1, none⟩ (fc nt ct)) w.heap.size [fc nl cl, fc nt ct] 51 ∧ w.grownBy ((w2.setCell ⟨w.heap.size, 0, none⟩ (fc nl cl)).setCell ⟨w.heap.size, 1, none⟩ (fc nt ct)) none ∧ LayC ((w2.setCell ⟨w.heap.size, 0, none⟩ (fc nl cl)).setCell ⟨w.heap.size, 1, none⟩ (fc nt ct)) w.heap.size ((w2.setCell ⟨w.heap.size, 0, none⟩ (fc nl cl)).setCell ⟨w.heap.size, 1, none⟩ (fc nt ct)).heap.size .S b o nl cl ∧ TakeC ((w2.setCell ⟨w.heap.size, 0, none⟩ (fc nl cl)).setCell ⟨w.heap.size, 1, none⟩ (fc nt ct)) w.heap.size ((w2.setCell ⟨w.heap.size, 0, none⟩ (fc nl cl)).setCell ⟨w.heap.size, 1, none⟩ (fc nt ct)).heap.size .S b o nt ct) :=
    ⟨(h0.setCell 0 (fc nl cl)).setCell 1 (fc nt ct), gr_new ((World.grownBy_alloc w (.cells #[.nilFunc, .nilFunc] 51) none).trans g) g5 (Nat.le_refl _), l.kept hk (by omega) g5.size, tk.kept hk (by omega) g5.size⟩
  clear h0 g5 hk l tk g
  go_wp2
  exact ret_cell rfl rfl HE.out.1 hd hr infoP rfl ⟨_, _, rfl, ⟨nl, cl, nt, ct, rfl, rfl, HE.out.2.2.1, HE.out.2.2.2⟩, HE.out.2.1⟩
set_option maxHeartbeats 8000000 in
set_option maxRecDepth 100000 in
theorem textP (b o : Nat) (w : World) :
    Calls Tryz.prog 44 #[pa b o] w fun e w' => ∃ vl vt, e = .returned (.agg #[vl, vt]) ∧ PartC w' w.heap.size w'.heap.size .T b o vl vt ∧ w.grownBy w' none := by
  have hmf : MF := fun _ _ _ _ => rfl
  obtain ⟨d, hd, hr⟩ := underP
  obtain ⟨w1, hw1⟩ : ∃ q, ((w.alloc (.cells #[pa b o] 98)).alloc (.cells #[.nilFunc, .nilFunc] 51)).alloc (.cells #[fv 74] 141) = q := ⟨_, rfl⟩
  obtain ⟨w2, hw2⟩ : ∃ q, w1.alloc (.cells #[fv 75] 142) = q := ⟨_, rfl⟩
  have hsz : w1.heap.size = w.heap.size + 3 := by rw [← hw1]; simp
  have i0 : Has w2 w.heap.size [pa b o] 98 := by rw [← hw2, ← hw1]; exact (((Has.newA w #[pa b o] _).alloc _).alloc _).alloc _
  have i1 : Has w2 (w.heap.size + 1) [.nilFunc, .nilFunc] 51 := by rw [← hw2, ← hw1]; exact ((hasA #[.nilFunc, .nilFunc] _ (by simp)).alloc _).alloc _
  have i2 : Has w2 (w.heap.size + 2) [fv 74] 141 := by rw [← hw2, ← hw1]; exact (hasA #[fv 74] _ (by simp)).alloc _
  have i3 : Has w2 (w.heap.size + 3) [fv 75] 142 := by rw [← hw2]; exact hasA #[fv 75] _ hsz
  have g2 : w.grownBy w2 none := by rw [← hw2, ← hw1]; exact (((gr_al _ _).trans (gr_al _ _)).trans (gr_al _ _)).trans (gr_al _ _)
  have hsz2 : w2.heap.size = w.heap.size + 4 := by rw [← hw2]; simp [hsz]
  have c0 : w2.cell? ⟨w.heap.size + 1, 0, none⟩ = some .nilFunc := i1.cellv 0 _ rfl
  have c1 : w2.cell? ⟨w.heap.size + 1, 1, none⟩ = some .nilFunc := i1.cellv 1 _ rfl
  have z0 : w2.frozen? ⟨w.heap.size + 1, 0, none⟩ = false := i1.frozen 0
  have z1 : w2.frozen? ⟨w.heap.size + 1, 1, none⟩ = false := i1.frozen 1
  have HI := Keep.mk (And.intro i0 (And.intro i1 (And.intro i2 (And.intro i3 (And.intro g2 hsz2)))))
  clear i0 i1 i2 i3 g2 hsz2
  go_enter Tryz.func44, Tryz.ntmps44
  go_wp2
  obtain ⟨i0, i1, i2, i3, g2, hsz2⟩ := HI.out
  obtain ⟨X, hX⟩ : ∃ X, fc 76 #[pa (w.heap.size + 2) 0, pa w.heap.size 0] = X := ⟨_, rfl⟩
  obtain ⟨Y, hY⟩ : ∃ Y, fc 77 #[pa (w.heap.size + 3) 0, pa w.heap.size 0] = Y := ⟨_, rfl⟩
  show bodyPost _ _ _ _ _ ((w2.setCell ⟨w.heap.size + 1, 0, none⟩ (fc 76 #[pa (w.heap.size + 2) 0, pa w.heap.size 0])).setCell ⟨w.heap.size + 1, 1, none⟩ (fc 77 #[pa (w.heap.size + 3) 0, pa w.heap.size 0]))
  rw [hX, hY]
  have g5 : w2.grownBy ((w2.setCell ⟨w.heap.size + 1, 0, none⟩ X).setCell ⟨w.heap.size + 1, 1, none⟩ Y) (some (w.heap.size + 1)) := (gr_set _ _ _ _).trans (gr_set _ _ _ _)
  have h5 := (i1.setCell 0 X).setCell 1 Y
  have n0 : some w.heap.size ≠ some (w.heap.size + 1) := fun e => by have := Option.some.inj e; omega
  have n2 : some (w.heap.size + 2) ≠ some (w.heap.size + 1) := fun e => by have := Option.some.inj e; omega
  have n3 : some (w.heap.size + 3) ≠ some (w.heap.size + 1) := fun e => by have := Option.some.inj e; omega
  have hs5 := g5.size
  refine ret_cell rfl rfl h5 hd hr infoP rfl ⟨X, Y, rfl, ⟨76, _, 77, _, hX.symm, hY.symm, ?_, ?_⟩, gr_new g2 g5 (by omega)⟩
  · exact layT _ _ _ b o (w.heap.size + 2) w.heap.size (i2.kept g5 n2) (i0.kept g5 n0) ⟨by omega, by omega⟩ ⟨by omega, by omega⟩
  · exact takT _ _ _ b o (w.heap.size + 3) w.heap.size (i3.kept g5 n3) (i0.kept g5 n0) ⟨by omega, by omega⟩ ⟨by omega, by omega⟩
set_option maxHeartbeats 8000000 in
set_option maxRecDepth 100000 in
theorem countP (b o : Nat) (w : World) :
    Calls Tryz.prog 47 #[pa b o] w fun e w' => ∃ vl vt, e = .returned (.agg #[vl, vt]) ∧ PartC w' w.heap.size w'.heap.size .C b o vl vt ∧ w.grownBy w' none := by
  have hmf : MF := fun _ _ _ _ => rfl
  obtain ⟨d, hd, hr⟩ := underP
  go_enter Tryz.func47, Tryz.ntmps47
  go_wp2
  refine ret_cell rfl rfl (hasA (k := w.heap.size + 1) #[fc 82 #[pa w.heap.size 0], fc 83 #[pa w.heap.size 0]] 51 (by simp)) hd hr infoP rfl ⟨_, _, rfl, ⟨82, _, 83, _, rfl, rfl, ?_, ?_⟩, ?_⟩
  · exact layN1 _ _ _ b o w.heap.size ((Has.newA w #[pa b o] 103).alloc _) ⟨by simp, by simp <;> omega⟩
  · exact takC _ _ _ b o w.heap.size ((Has.newA w #[pa b o] 103).alloc _) ⟨by simp, by simp <;> omega⟩
  · exact (gr_al _ _).trans (gr_al _ _)
end Go.Proofs.YtkdjcknikhgfkabGreatDoor.Pk.Sn
