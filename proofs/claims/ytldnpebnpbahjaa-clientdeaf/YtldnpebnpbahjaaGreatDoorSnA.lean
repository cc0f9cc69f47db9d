import Derived.Test.YtldnpebnpbahjaaGreatDoorSnP
import Derived.Test.YtldnpebnpbahjaaGreatDoorX24
import Derived.Test.YtldnpebnpbahjaaGreatDoorX5
import Derived.Test.YtldnpebnpbahjaaGreatDoorX4
import Derived.Laws.EntriesVeiled
/- the parts of a view: how they are laid -/
namespace Go.Proofs.YtldnpebnpbahjaaGreatDoor.Pk.Sn
open Go Go.RowKit

abbrev pa (b o : Nat) : Value := .pointer (some ⟨b, o, none⟩)
abbrev uv (x : Int) : Value := .int .u64 x
abbrev fc (n : Nat) (c : Array Value) : Value := .func (.func n) #[] c
abbrev Ent (f : Nat) : Prop := ∀ (a : Array Value) (W : World), (callFunc f a).run Tryz.prog W = .ok (.enter f a) W
/-- blocks between two numbers are as they were -/
def Kpt (lo hi : Nat) (w W : World) : Prop := ∀ i, lo ≤ i → i < hi → W.heap[i]? = w.heap[i]?
theorem Kpt.has {lo hi : Nat} {w W : World} {b : Nat} {cs : List Value} {t : TypeId} (h : Kpt lo hi w W) (hb : Has w b cs t) (h1 : lo ≤ b) (h2 : b < hi) : Has W b cs t := by
  unfold Has at hb ⊢
  rw [h b h1 h2]; exact hb
theorem Kpt.refl (lo hi : Nat) (w : World) : Kpt lo hi w w := fun _ _ _ => rfl
theorem Kpt.trans {lo hi : Nat} {a b c : World} (h : Kpt lo hi a b) (k : Kpt lo hi b c) : Kpt lo hi a c := fun i h1 h2 => (k i h1 h2).trans (h i h1 h2)
theorem Kpt.mono {lo hi lo' hi' : Nat} {w W : World} (h : Kpt lo' hi' w W) (h1 : lo' ≤ lo) (h2 : hi ≤ hi') : Kpt lo hi w W := fun i q1 q2 => h i (by omega) (by omega)
theorem Kpt.fr {lo hi : Nat} {S : Nat → Prop} {w W : World} (f : Fr S w W) (hh : hi ≤ w.heap.size) (hs : ∀ i, S i → i < lo ∨ hi ≤ i) : Kpt lo hi w W := fun i h1 h2 => f.block i (by omega) (fun e => by have := hs i e; omega)
theorem Kpt.grown {lo hi : Nat} {w W : World} (g : w.grownBy W none) (hh : hi ≤ w.heap.size) : Kpt lo hi w W := Kpt.fr (S := fun _ => False) (Fr.ofNone g) hh (fun _ e => e.elim)
theorem fr_cell {S : Nat → Prop} {w w' : World} {b o : Nat} {v : Value} (f : Fr S w w') (hs : ¬ S b) (h : w.cell? ⟨b, o, none⟩ = some v) : w'.cell? ⟨b, o, none⟩ = some v := by
  have hb : b < w.heap.size := by
    refine Nat.lt_of_not_le (fun q => ?_)
    unfold World.cell? at h
    rw [Array.getElem?_eq_none q] at h
    cases h
  unfold World.cell? at h ⊢
  rw [f.block b hb hs]; exact h
/-- a part as it lies -/
inductive Mk | U | I | T | S | C
def Mk.kd : Mk → Kd
  | .U => .u8 | .I => .u1 | .T => .tx | .S => .sg | .C => .u1
def Mk.r : Mk → Lv → Value → Prop
  | .U, x, v => ∃ z : Int, x = .num z ∧ v = uv z
  | .I, x, v => ∃ z : Int, x = .num z ∧ v = iv z
  | .S, x, v => ∃ z : Int, x = .num z ∧ v = iv z
  | .T, x, v => ∃ s : ByteArray, x = .txt (sl s) ∧ v = .string s
  | .C, x, v => ∃ a n c, x = .num (n : Nat) ∧ v = .slice a n c
/-- what the lay of a part does -/
def LayC (w : World) (lo hi : Nat) (m : Mk) (b o n : Nat) (c : Array Value) : Prop :=
  Ent n ∧ ∀ (W : World) (wb : Nat) (v : Value) (st : WS) (x : Lv) (z : Value), Kpt lo hi w W → (∀ i, WF wb v i → (i < lo ∨ hi ≤ i) ∧ i ≠ b) → W.cell? ⟨b, o, none⟩ = some z → m.r x z → okK m.kd x → WAt W wb v st → (st.getD []).length ≤ 1000000 →
    Calls Tryz.prog n (#[pa wb 0] ++ c) W fun e w' => e = .returned (.tuple #[]) ∧ ∃ v', WDid W w' wb v (layK m.kd x st) v'
theorem LayC.kept {w w' : World} {lo hi lo' hi' : Nat} {m : Mk} {b o n : Nat} {c : Array Value} (h : LayC w lo hi m b o n c) (k : Kpt lo hi w w') (h1 : lo' ≤ lo) (h2 : hi ≤ hi') : LayC w' lo' hi' m b o n c :=
  ⟨h.1, fun W wb v st x z hk hd => h.2 W wb v st x z (k.trans (hk.mono h1 h2)) (fun i hi => ⟨by have := (hd i hi).1; omega, (hd i hi).2⟩)⟩
set_option maxRecDepth 100000 in
theorem en148 : Ent 148 := fun _ _ => by kernel_rfl
set_option maxRecDepth 100000 in
theorem en193 : Ent 193 := fun _ _ => by kernel_rfl
set_option maxRecDepth 100000 in
theorem en142 : Ent 142 := fun _ _ => by kernel_rfl
set_option maxRecDepth 100000 in
theorem en187 : Ent 187 := fun _ _ => by kernel_rfl
set_option maxRecDepth 100000 in
theorem en216 : Ent 216 := fun _ _ => by kernel_rfl
set_option maxRecDepth 100000 in
theorem en220 : Ent 220 := fun _ _ => by kernel_rfl
set_option maxHeartbeats 8000000 in
set_option maxRecDepth 100000 in
theorem layU (w : World) (lo hi b o bl bp bs : Nat) (h1 : Has w bl [fv 148] 247) (h2 : Has w bp [pa b o] 190) (h3 : Has w bs [iv 8] 3) (q1 : lo ≤ bl ∧ bl < hi) (q2 : lo ≤ bp ∧ bp < hi) (q3 : lo ≤ bs ∧ bs < hi) : LayC w lo hi .U b o 234 #[pa bl 0, pa bp 0, pa bs 0] := by
  refine ⟨fun _ _ => by kernel_rfl, fun W wb v st x z hk hd hz hr ho ha hl => ?_⟩
  show Calls Tryz.prog 234 #[pa wb 0, pa bl 0, pa bp 0, pa bs 0] W _
  obtain ⟨y, rfl, rfl⟩ := hr
  have HS : Keep (W.drew.cell? ⟨bl, 0, none⟩ = some (fv 148) ∧ W.drew.cell? ⟨bp, 0, none⟩ = some (pa b o) ∧ W.drew.cell? ⟨bs, 0, none⟩ = some (iv 8) ∧ W.drew.cell? ⟨b, o, none⟩ = some (uv y)) := ⟨(hk.has h1 q1.1 q1.2).cellv 0 _ rfl, (hk.has h2 q2.1 q2.2).cellv 0 _ rfl, (hk.has h3 q3.1 q3.2).cellv 0 _ rfl, hz⟩
  have HA : Keep (WAt W.drew wb v st) := ⟨ha.kept (gr_drew _ _)⟩
  have HN : Keep (¬ WF wb v bl ∧ ¬ WF wb v bp ∧ ¬ WF wb v bs ∧ ¬ WF wb v b) := ⟨fun e => (by have := (hd _ e).1; omega), fun e => (by have := (hd _ e).1; omega), fun e => (by have := (hd _ e).1; omega), fun e => (hd _ e).2 rfl⟩
  have HO := Keep.mk ho
  have HL := Keep.mk hl
  have hen := en148
  skip
  clear h1 h2 h3 q1 q2 q3 hk hd hz ho ha hl
  go_enter Tryz.func234, Tryz.ntmps234
  go_wp2_with fail
  refine region_Y (S := fun w' => w'.cell? ⟨bl, 0, none⟩ = some (fv 148) ∧ w'.cell? ⟨bp, 0, none⟩ = some (pa b o) ∧ w'.cell? ⟨bs, 0, none⟩ = some (iv 8) ∧ w'.cell? ⟨b, o, none⟩ = some (uv y)) [] (by kernel_rfl) ?_
  have hHeld := HS.out
  refine wpAnyY_take (i := 0) (oi := _) (v := ?_) rfl (by kernel_rfl) (by kernel_rfl) (by kernel_rfl) (by kernel_rfl) (by kernel_rfl) (fun _ _ _ h => h) (Or.inl ⟨by rfl, ?_⟩) (by assumption) ?_
  rotate_left
  · (intro w hSw; obtain ⟨x1, x2, x3, x4⟩ := hSw; go_simp; first | done | (with_reducible rfl))
  simp only [Act.put, List.getElem_toArray, List.getElem_cons_zero, List.setIfInBounds_toArray, List.set_cons_zero, List.set_cons_succ]
  refine wpAnyY_pure (i := 1) (oi := _) (v := ?_) rfl (by kernel_rfl) (by kernel_rfl) (by kernel_rfl) (by kernel_rfl) (fun _ _ _ h => h) (Or.inl ⟨by rfl, ?_⟩) ?_
  rotate_left
  · (intro w hSw; go_simp; first | done | (with_reducible rfl))
  simp only [Act.put, List.getElem_toArray, List.getElem_cons_succ, List.getElem_cons_zero, List.setIfInBounds_toArray, List.set_cons_zero, List.set_cons_succ]
  refine wpAnyY_take (i := 2) (oi := _) (v := ?_) rfl (by kernel_rfl) (by kernel_rfl) (by kernel_rfl) (by kernel_rfl) (by kernel_rfl) (fun _ _ _ h => h) (Or.inl ⟨by rfl, ?_⟩) (by assumption) ?_
  rotate_left
  · (intro w hSw; obtain ⟨x1, x2, x3, x4⟩ := hSw; go_simp; first | done | (with_reducible rfl))
  simp only [Act.put, List.getElem_toArray, List.getElem_cons_succ, List.getElem_cons_zero, List.setIfInBounds_toArray, List.set_cons_zero, List.set_cons_succ]
  refine wpAnyY_pure (i := 3) (oi := _) (v := ?_) rfl (by kernel_rfl) (by kernel_rfl) (by kernel_rfl) (by kernel_rfl) (fun _ _ _ h => h) (Or.inl ⟨by rfl, ?_⟩) ?_
  rotate_left
  · (intro w hSw; go_simp; first | done | (with_reducible rfl))
  simp only [Act.put, List.getElem_toArray, List.getElem_cons_succ, List.getElem_cons_zero, List.setIfInBounds_toArray, List.set_cons_zero, List.set_cons_succ]
  refine wpAnyY_take (i := 4) (oi := _) (v := ?_) rfl (by kernel_rfl) (by kernel_rfl) (by kernel_rfl) (by kernel_rfl) (by kernel_rfl) (fun _ _ _ h => h) (Or.inl ⟨by rfl, ?_⟩) (by assumption) ?_
  rotate_left
  · (intro w hSw; obtain ⟨x1, x2, x3, x4⟩ := hSw; go_simp; first | done | (with_reducible rfl))
  simp only [Act.put, List.getElem_toArray, List.getElem_cons_succ, List.getElem_cons_zero, List.setIfInBounds_toArray, List.set_cons_zero, List.set_cons_succ]
  refine wpAnyY_take (i := 5) (oi := _) (v := ?_) rfl (by kernel_rfl) (by kernel_rfl) (by kernel_rfl) (by kernel_rfl) (by kernel_rfl) (fun _ _ _ h => h) (Or.inl ⟨by rfl, ?_⟩) (by assumption) ?_
  rotate_left
  · (intro w hSw; obtain ⟨x1, x2, x3, x4⟩ := hSw; go_simp; first | done | (with_reducible rfl))
  simp only [Act.put, List.getElem_toArray, List.getElem_cons_succ, List.getElem_cons_zero, List.setIfInBounds_toArray, List.set_cons_zero, List.set_cons_succ]
  refine wpAnyY_one (i := 6) (by kernel_rfl) rfl (fun K hK => ?_)
  go_simp
  obtain ⟨yn, hyn⟩ : ∃ n : Nat, y = (n : Int) := ⟨y.toNat, (Int.toNat_of_nonneg HO.out.1).symm⟩
  subst hyn
  refine (wNumber_c wb v st yn 8 _ HA.out (by have := HO.out.2; exact Int.ofNat_lt.1 this) (by have := HL.out; omega)).mono ?_
  rintro e w2 ⟨rfl, v', d2⟩
  refine hK.out _ _ (fun q => ⟨fr_cell d2.f HN.out.1 q.1, fr_cell d2.f HN.out.2.1 q.2.1, fr_cell d2.f HN.out.2.2.1 q.2.2.1, fr_cell d2.f HN.out.2.2.2 q.2.2.2⟩) ?_
  clear hK K
  have HD := Keep.mk ((WDid.ahead (gr_drew _ _) d2 : WDid W w2 wb v _ v'))
  clear d2
  refine wpAnyY_done (by kernel_rfl) ?_ _
  go_wp2_with fail
  go_end0
  exact ⟨rfl, v', HD.out⟩
set_option maxHeartbeats 8000000 in
set_option maxRecDepth 100000 in
theorem layI (w : World) (lo hi b o bl bp bs : Nat) (h1 : Has w bl [fv 148] 247) (h2 : Has w bp [pa b o] 193) (h3 : Has w bs [iv 1] 3) (q1 : lo ≤ bl ∧ bl < hi) (q2 : lo ≤ bp ∧ bp < hi) (q3 : lo ≤ bs ∧ bs < hi) : LayC w lo hi .I b o 236 #[pa bl 0, pa bp 0, pa bs 0] := by
  refine ⟨fun _ _ => by kernel_rfl, fun W wb v st x z hk hd hz hr ho ha hl => ?_⟩
  show Calls Tryz.prog 236 #[pa wb 0, pa bl 0, pa bp 0, pa bs 0] W _
  obtain ⟨y, rfl, rfl⟩ := hr
  have HS : Keep (W.drew.cell? ⟨bl, 0, none⟩ = some (fv 148) ∧ W.drew.cell? ⟨bp, 0, none⟩ = some (pa b o) ∧ W.drew.cell? ⟨bs, 0, none⟩ = some (iv 1) ∧ W.drew.cell? ⟨b, o, none⟩ = some (iv y)) := ⟨(hk.has h1 q1.1 q1.2).cellv 0 _ rfl, (hk.has h2 q2.1 q2.2).cellv 0 _ rfl, (hk.has h3 q3.1 q3.2).cellv 0 _ rfl, hz⟩
  have HA : Keep (WAt W.drew wb v st) := ⟨ha.kept (gr_drew _ _)⟩
  have HN : Keep (¬ WF wb v bl ∧ ¬ WF wb v bp ∧ ¬ WF wb v bs ∧ ¬ WF wb v b) := ⟨fun e => (by have := (hd _ e).1; omega), fun e => (by have := (hd _ e).1; omega), fun e => (by have := (hd _ e).1; omega), fun e => (hd _ e).2 rfl⟩
  have HO := Keep.mk ho
  have HL := Keep.mk hl
  have hen := en148
  have hyw : IntKind.u64.wrap y = ((u64 y : Nat) : Int) := by rw [wu]; unfold u64; omega
  clear h1 h2 h3 q1 q2 q3 hk hd hz ho ha hl
  go_enter Tryz.func236, Tryz.ntmps236
  go_wp2_with fail
  refine region_Y (S := fun w' => w'.cell? ⟨bl, 0, none⟩ = some (fv 148) ∧ w'.cell? ⟨bp, 0, none⟩ = some (pa b o) ∧ w'.cell? ⟨bs, 0, none⟩ = some (iv 1) ∧ w'.cell? ⟨b, o, none⟩ = some (iv y)) [] (by kernel_rfl) ?_
  have hHeld := HS.out
  refine wpAnyY_take (i := 0) (oi := _) (v := ?_) rfl (by kernel_rfl) (by kernel_rfl) (by kernel_rfl) (by kernel_rfl) (by kernel_rfl) (fun _ _ _ h => h) (Or.inl ⟨by rfl, ?_⟩) (by assumption) ?_
  rotate_left
  · (intro w hSw; obtain ⟨x1, x2, x3, x4⟩ := hSw; go_simp; first | done | (with_reducible rfl))
  simp only [Act.put, List.getElem_toArray, List.getElem_cons_zero, List.setIfInBounds_toArray, List.set_cons_zero, List.set_cons_succ]
  refine wpAnyY_pure (i := 1) (oi := _) (v := ?_) rfl (by kernel_rfl) (by kernel_rfl) (by kernel_rfl) (by kernel_rfl) (fun _ _ _ h => h) (Or.inl ⟨by rfl, ?_⟩) ?_
  rotate_left
  · (intro w hSw; go_simp; first | done | (with_reducible rfl))
  simp only [Act.put, List.getElem_toArray, List.getElem_cons_succ, List.getElem_cons_zero, List.setIfInBounds_toArray, List.set_cons_zero, List.set_cons_succ]
  refine wpAnyY_take (i := 2) (oi := _) (v := ?_) rfl (by kernel_rfl) (by kernel_rfl) (by kernel_rfl) (by kernel_rfl) (by kernel_rfl) (fun _ _ _ h => h) (Or.inl ⟨by rfl, ?_⟩) (by assumption) ?_
  rotate_left
  · (intro w hSw; obtain ⟨x1, x2, x3, x4⟩ := hSw; go_simp; first | done | (with_reducible rfl))
  simp only [Act.put, List.getElem_toArray, List.getElem_cons_succ, List.getElem_cons_zero, List.setIfInBounds_toArray, List.set_cons_zero, List.set_cons_succ]
  refine wpAnyY_pure (i := 3) (oi := _) (v := ?_) rfl (by kernel_rfl) (by kernel_rfl) (by kernel_rfl) (by kernel_rfl) (fun _ _ _ h => h) (Or.inl ⟨by rfl, ?_⟩) ?_
  rotate_left
  · (intro w hSw; go_simp; first | done | (with_reducible rfl))
  simp only [Act.put, List.getElem_toArray, List.getElem_cons_succ, List.getElem_cons_zero, List.setIfInBounds_toArray, List.set_cons_zero, List.set_cons_succ]
  refine wpAnyY_take (i := 4) (oi := _) (v := ?_) rfl (by kernel_rfl) (by kernel_rfl) (by kernel_rfl) (by kernel_rfl) (by kernel_rfl) (fun _ _ _ h => h) (Or.inl ⟨by rfl, ?_⟩) (by assumption) ?_
  rotate_left
  · (intro w hSw; obtain ⟨x1, x2, x3, x4⟩ := hSw; go_simp; first | done | (with_reducible rfl))
  simp only [Act.put, List.getElem_toArray, List.getElem_cons_succ, List.getElem_cons_zero, List.setIfInBounds_toArray, List.set_cons_zero, List.set_cons_succ]
  refine wpAnyY_pure (i := 5) (oi := _) (v := ?_) rfl (by kernel_rfl) (by kernel_rfl) (by kernel_rfl) (by kernel_rfl) (fun _ _ _ h => h) (Or.inl ⟨by rfl, ?_⟩) ?_
  rotate_left
  · (intro w hSw; go_simp; first | done | (with_reducible rfl))
  simp only [Act.put, List.getElem_toArray, List.getElem_cons_succ, List.getElem_cons_zero, List.setIfInBounds_toArray, List.set_cons_zero, List.set_cons_succ]
  refine wpAnyY_take (i := 6) (oi := _) (v := ?_) rfl (by kernel_rfl) (by kernel_rfl) (by kernel_rfl) (by kernel_rfl) (by kernel_rfl) (fun _ _ _ h => h) (Or.inl ⟨by rfl, ?_⟩) (by assumption) ?_
  rotate_left
  · (intro w hSw; obtain ⟨x1, x2, x3, x4⟩ := hSw; go_simp; first | done | (with_reducible rfl))
  simp only [Act.put, List.getElem_toArray, List.getElem_cons_succ, List.getElem_cons_zero, List.setIfInBounds_toArray, List.set_cons_zero, List.set_cons_succ]
  refine wpAnyY_one (i := 7) (by kernel_rfl) rfl (fun K hK => ?_)
  go_simp
  refine (wNumber_c wb v st (u64 y) 1 _ HA.out (u64_lt y) (by have := HL.out; omega)).mono ?_
  rintro e w2 ⟨rfl, v', d2⟩
  refine hK.out _ _ (fun q => ⟨fr_cell d2.f HN.out.1 q.1, fr_cell d2.f HN.out.2.1 q.2.1, fr_cell d2.f HN.out.2.2.1 q.2.2.1, fr_cell d2.f HN.out.2.2.2 q.2.2.2⟩) ?_
  clear hK K
  have HD := Keep.mk ((WDid.ahead (gr_drew _ _) d2 : WDid W w2 wb v _ v'))
  clear d2
  refine wpAnyY_done (by kernel_rfl) ?_ _
  go_wp2_with fail
  go_end0
  exact ⟨rfl, v', HD.out⟩
set_option maxHeartbeats 8000000 in
set_option maxRecDepth 100000 in
theorem layL (w : World) (lo hi b o bl bp bs : Nat) (h1 : Has w bl [fv 193] 253) (h2 : Has w bp [pa b o] 233) (h3 : Has w bs [iv 8] 3) (q1 : lo ≤ bl ∧ bl < hi) (q2 : lo ≤ bp ∧ bp < hi) (q3 : lo ≤ bs ∧ bs < hi) : LayC w lo hi .S b o 238 #[pa bl 0, pa bp 0, pa bs 0] := by
  refine ⟨fun _ _ => by kernel_rfl, fun W wb v st x z hk hd hz hr ho ha hl => ?_⟩
  show Calls Tryz.prog 238 #[pa wb 0, pa bl 0, pa bp 0, pa bs 0] W _
  obtain ⟨y, rfl, rfl⟩ := hr
  have HS : Keep (W.drew.cell? ⟨bl, 0, none⟩ = some (fv 193) ∧ W.drew.cell? ⟨bp, 0, none⟩ = some (pa b o) ∧ W.drew.cell? ⟨bs, 0, none⟩ = some (iv 8) ∧ W.drew.cell? ⟨b, o, none⟩ = some (iv y)) := ⟨(hk.has h1 q1.1 q1.2).cellv 0 _ rfl, (hk.has h2 q2.1 q2.2).cellv 0 _ rfl, (hk.has h3 q3.1 q3.2).cellv 0 _ rfl, hz⟩
  have HA : Keep (WAt W.drew wb v st) := ⟨ha.kept (gr_drew _ _)⟩
  have HN : Keep (¬ WF wb v bl ∧ ¬ WF wb v bp ∧ ¬ WF wb v bs ∧ ¬ WF wb v b) := ⟨fun e => (by have := (hd _ e).1; omega), fun e => (by have := (hd _ e).1; omega), fun e => (by have := (hd _ e).1; omega), fun e => (hd _ e).2 rfl⟩
  have HO := Keep.mk ho
  have HL := Keep.mk hl
  have hen := en193
  skip
  clear h1 h2 h3 q1 q2 q3 hk hd hz ho ha hl
  go_enter Tryz.func238, Tryz.ntmps238
  go_wp2_with fail
  refine region_Y (S := fun w' => w'.cell? ⟨bl, 0, none⟩ = some (fv 193) ∧ w'.cell? ⟨bp, 0, none⟩ = some (pa b o) ∧ w'.cell? ⟨bs, 0, none⟩ = some (iv 8) ∧ w'.cell? ⟨b, o, none⟩ = some (iv y)) [] (by kernel_rfl) ?_
  have hHeld := HS.out
  refine wpAnyY_take (i := 0) (oi := _) (v := ?_) rfl (by kernel_rfl) (by kernel_rfl) (by kernel_rfl) (by kernel_rfl) (by kernel_rfl) (fun _ _ _ h => h) (Or.inl ⟨by rfl, ?_⟩) (by assumption) ?_
  rotate_left
  · (intro w hSw; obtain ⟨x1, x2, x3, x4⟩ := hSw; go_simp; first | done | (with_reducible rfl))
  simp only [Act.put, List.getElem_toArray, List.getElem_cons_zero, List.setIfInBounds_toArray, List.set_cons_zero, List.set_cons_succ]
  refine wpAnyY_pure (i := 1) (oi := _) (v := ?_) rfl (by kernel_rfl) (by kernel_rfl) (by kernel_rfl) (by kernel_rfl) (fun _ _ _ h => h) (Or.inl ⟨by rfl, ?_⟩) ?_
  rotate_left
  · (intro w hSw; go_simp; first | done | (with_reducible rfl))
  simp only [Act.put, List.getElem_toArray, List.getElem_cons_succ, List.getElem_cons_zero, List.setIfInBounds_toArray, List.set_cons_zero, List.set_cons_succ]
  refine wpAnyY_take (i := 2) (oi := _) (v := ?_) rfl (by kernel_rfl) (by kernel_rfl) (by kernel_rfl) (by kernel_rfl) (by kernel_rfl) (fun _ _ _ h => h) (Or.inl ⟨by rfl, ?_⟩) (by assumption) ?_
  rotate_left
  · (intro w hSw; obtain ⟨x1, x2, x3, x4⟩ := hSw; go_simp; first | done | (with_reducible rfl))
  simp only [Act.put, List.getElem_toArray, List.getElem_cons_succ, List.getElem_cons_zero, List.setIfInBounds_toArray, List.set_cons_zero, List.set_cons_succ]
  refine wpAnyY_pure (i := 3) (oi := _) (v := ?_) rfl (by kernel_rfl) (by kernel_rfl) (by kernel_rfl) (by kernel_rfl) (fun _ _ _ h => h) (Or.inl ⟨by rfl, ?_⟩) ?_
  rotate_left
  · (intro w hSw; go_simp; first | done | (with_reducible rfl))
  simp only [Act.put, List.getElem_toArray, List.getElem_cons_succ, List.getElem_cons_zero, List.setIfInBounds_toArray, List.set_cons_zero, List.set_cons_succ]
  refine wpAnyY_take (i := 4) (oi := _) (v := ?_) rfl (by kernel_rfl) (by kernel_rfl) (by kernel_rfl) (by kernel_rfl) (by kernel_rfl) (fun _ _ _ h => h) (Or.inl ⟨by rfl, ?_⟩) (by assumption) ?_
  rotate_left
  · (intro w hSw; obtain ⟨x1, x2, x3, x4⟩ := hSw; go_simp; first | done | (with_reducible rfl))
  simp only [Act.put, List.getElem_toArray, List.getElem_cons_succ, List.getElem_cons_zero, List.setIfInBounds_toArray, List.set_cons_zero, List.set_cons_succ]
  refine wpAnyY_take (i := 5) (oi := _) (v := ?_) rfl (by kernel_rfl) (by kernel_rfl) (by kernel_rfl) (by kernel_rfl) (by kernel_rfl) (fun _ _ _ h => h) (Or.inl ⟨by rfl, ?_⟩) (by assumption) ?_
  rotate_left
  · (intro w hSw; obtain ⟨x1, x2, x3, x4⟩ := hSw; go_simp; first | done | (with_reducible rfl))
  simp only [Act.put, List.getElem_toArray, List.getElem_cons_succ, List.getElem_cons_zero, List.setIfInBounds_toArray, List.set_cons_zero, List.set_cons_succ]
  refine wpAnyY_one (i := 6) (by kernel_rfl) rfl (fun K hK => ?_)
  go_simp
  refine (wSigned_c wb v st y 8 _ HA.out HO.out (by have := HL.out; omega)).mono ?_
  rintro e w2 ⟨rfl, v', d2⟩
  refine hK.out _ _ (fun q => ⟨fr_cell d2.f HN.out.1 q.1, fr_cell d2.f HN.out.2.1 q.2.1, fr_cell d2.f HN.out.2.2.1 q.2.2.1, fr_cell d2.f HN.out.2.2.2 q.2.2.2⟩) ?_
  clear hK K
  have HD := Keep.mk ((WDid.ahead (gr_drew _ _) d2 : WDid W w2 wb v _ v'))
  clear d2
  refine wpAnyY_done (by kernel_rfl) ?_ _
  go_wp2_with fail
  go_end0
  exact ⟨rfl, v', HD.out⟩
set_option maxHeartbeats 8000000 in
set_option maxRecDepth 100000 in
theorem layN (w : World) (lo hi b o bl bp bs : Nat) (h1 : Has w bl [fv 193] 253) (h2 : Has w bp [pa b o] 193) (h3 : Has w bs [iv 8] 3) (q1 : lo ≤ bl ∧ bl < hi) (q2 : lo ≤ bp ∧ bp < hi) (q3 : lo ≤ bs ∧ bs < hi) : LayC w lo hi .S b o 240 #[pa bl 0, pa bp 0, pa bs 0] := by
  refine ⟨fun _ _ => by kernel_rfl, fun W wb v st x z hk hd hz hr ho ha hl => ?_⟩
  show Calls Tryz.prog 240 #[pa wb 0, pa bl 0, pa bp 0, pa bs 0] W _
  obtain ⟨y, rfl, rfl⟩ := hr
  have HS : Keep (W.drew.cell? ⟨bl, 0, none⟩ = some (fv 193) ∧ W.drew.cell? ⟨bp, 0, none⟩ = some (pa b o) ∧ W.drew.cell? ⟨bs, 0, none⟩ = some (iv 8) ∧ W.drew.cell? ⟨b, o, none⟩ = some (iv y)) := ⟨(hk.has h1 q1.1 q1.2).cellv 0 _ rfl, (hk.has h2 q2.1 q2.2).cellv 0 _ rfl, (hk.has h3 q3.1 q3.2).cellv 0 _ rfl, hz⟩
  have HA : Keep (WAt W.drew wb v st) := ⟨ha.kept (gr_drew _ _)⟩
  have HN : Keep (¬ WF wb v bl ∧ ¬ WF wb v bp ∧ ¬ WF wb v bs ∧ ¬ WF wb v b) := ⟨fun e => (by have := (hd _ e).1; omega), fun e => (by have := (hd _ e).1; omega), fun e => (by have := (hd _ e).1; omega), fun e => (hd _ e).2 rfl⟩
  have HO := Keep.mk ho
  have HL := Keep.mk hl
  have hen := en193
  skip
  clear h1 h2 h3 q1 q2 q3 hk hd hz ho ha hl
  go_enter Tryz.func240, Tryz.ntmps240
  go_wp2_with fail
  refine region_Y (S := fun w' => w'.cell? ⟨bl, 0, none⟩ = some (fv 193) ∧ w'.cell? ⟨bp, 0, none⟩ = some (pa b o) ∧ w'.cell? ⟨bs, 0, none⟩ = some (iv 8) ∧ w'.cell? ⟨b, o, none⟩ = some (iv y)) [] (by kernel_rfl) ?_
  have hHeld := HS.out
  refine wpAnyY_take (i := 0) (oi := _) (v := ?_) rfl (by kernel_rfl) (by kernel_rfl) (by kernel_rfl) (by kernel_rfl) (by kernel_rfl) (fun _ _ _ h => h) (Or.inl ⟨by rfl, ?_⟩) (by assumption) ?_
  rotate_left
  · (intro w hSw; obtain ⟨x1, x2, x3, x4⟩ := hSw; go_simp; first | done | (with_reducible rfl))
  simp only [Act.put, List.getElem_toArray, List.getElem_cons_zero, List.setIfInBounds_toArray, List.set_cons_zero, List.set_cons_succ]
  refine wpAnyY_pure (i := 1) (oi := _) (v := ?_) rfl (by kernel_rfl) (by kernel_rfl) (by kernel_rfl) (by kernel_rfl) (fun _ _ _ h => h) (Or.inl ⟨by rfl, ?_⟩) ?_
  rotate_left
  · (intro w hSw; go_simp; first | done | (with_reducible rfl))
  simp only [Act.put, List.getElem_toArray, List.getElem_cons_succ, List.getElem_cons_zero, List.setIfInBounds_toArray, List.set_cons_zero, List.set_cons_succ]
  refine wpAnyY_take (i := 2) (oi := _) (v := ?_) rfl (by kernel_rfl) (by kernel_rfl) (by kernel_rfl) (by kernel_rfl) (by kernel_rfl) (fun _ _ _ h => h) (Or.inl ⟨by rfl, ?_⟩) (by assumption) ?_
  rotate_left
  · (intro w hSw; obtain ⟨x1, x2, x3, x4⟩ := hSw; go_simp; first | done | (with_reducible rfl))
  simp only [Act.put, List.getElem_toArray, List.getElem_cons_succ, List.getElem_cons_zero, List.setIfInBounds_toArray, List.set_cons_zero, List.set_cons_succ]
  refine wpAnyY_pure (i := 3) (oi := _) (v := ?_) rfl (by kernel_rfl) (by kernel_rfl) (by kernel_rfl) (by kernel_rfl) (fun _ _ _ h => h) (Or.inl ⟨by rfl, ?_⟩) ?_
  rotate_left
  · (intro w hSw; go_simp; first | done | (with_reducible rfl))
  simp only [Act.put, List.getElem_toArray, List.getElem_cons_succ, List.getElem_cons_zero, List.setIfInBounds_toArray, List.set_cons_zero, List.set_cons_succ]
  refine wpAnyY_take (i := 4) (oi := _) (v := ?_) rfl (by kernel_rfl) (by kernel_rfl) (by kernel_rfl) (by kernel_rfl) (by kernel_rfl) (fun _ _ _ h => h) (Or.inl ⟨by rfl, ?_⟩) (by assumption) ?_
  rotate_left
  · (intro w hSw; obtain ⟨x1, x2, x3, x4⟩ := hSw; go_simp; first | done | (with_reducible rfl))
  simp only [Act.put, List.getElem_toArray, List.getElem_cons_succ, List.getElem_cons_zero, List.setIfInBounds_toArray, List.set_cons_zero, List.set_cons_succ]
  refine wpAnyY_take (i := 5) (oi := _) (v := ?_) rfl (by kernel_rfl) (by kernel_rfl) (by kernel_rfl) (by kernel_rfl) (by kernel_rfl) (fun _ _ _ h => h) (Or.inl ⟨by rfl, ?_⟩) (by assumption) ?_
  rotate_left
  · (intro w hSw; obtain ⟨x1, x2, x3, x4⟩ := hSw; go_simp; first | done | (with_reducible rfl))
  simp only [Act.put, List.getElem_toArray, List.getElem_cons_succ, List.getElem_cons_zero, List.setIfInBounds_toArray, List.set_cons_zero, List.set_cons_succ]
  refine wpAnyY_one (i := 6) (by kernel_rfl) rfl (fun K hK => ?_)
  go_simp
  refine (wSigned_c wb v st y 8 _ HA.out HO.out (by have := HL.out; omega)).mono ?_
  rintro e w2 ⟨rfl, v', d2⟩
  refine hK.out _ _ (fun q => ⟨fr_cell d2.f HN.out.1 q.1, fr_cell d2.f HN.out.2.1 q.2.1, fr_cell d2.f HN.out.2.2.1 q.2.2.1, fr_cell d2.f HN.out.2.2.2 q.2.2.2⟩) ?_
  clear hK K
  have HD := Keep.mk ((WDid.ahead (gr_drew _ _) d2 : WDid W w2 wb v _ v'))
  clear d2
  refine wpAnyY_done (by kernel_rfl) ?_ _
  go_wp2_with fail
  go_end0
  exact ⟨rfl, v', HD.out⟩
set_option maxHeartbeats 8000000 in
set_option maxRecDepth 100000 in
theorem layT (w : World) (lo hi b o bl bp : Nat) (h1 : Has w bl [fv 142] 250) (h2 : Has w bp [pa b o] 185) (q1 : lo ≤ bl ∧ bl < hi) (q2 : lo ≤ bp ∧ bp < hi) : LayC w lo hi .T b o 221 #[pa bl 0, pa bp 0] := by
  refine ⟨fun _ _ => by kernel_rfl, fun W wb v st x z hk hd hz hr ho ha hl => ?_⟩
  show Calls Tryz.prog 221 #[pa wb 0, pa bl 0, pa bp 0] W _
  obtain ⟨s, rfl, rfl⟩ := hr
  have HS : Keep (W.drew.cell? ⟨bl, 0, none⟩ = some (fv 142) ∧ W.drew.cell? ⟨bp, 0, none⟩ = some (pa b o) ∧ W.drew.cell? ⟨b, o, none⟩ = some (.string s)) := ⟨(hk.has h1 q1.1 q1.2).cellv 0 _ rfl, (hk.has h2 q2.1 q2.2).cellv 0 _ rfl, hz⟩
  have HA : Keep (WAt W.drew wb v st) := ⟨ha.kept (gr_drew _ _)⟩
  have HN : Keep (¬ WF wb v bl ∧ ¬ WF wb v bp ∧ ¬ WF wb v b) := ⟨fun e => (by have := (hd _ e).1; omega), fun e => (by have := (hd _ e).1; omega), fun e => (hd _ e).2 rfl⟩
  have HO : Keep (s.size ≤ 140737488355328) := ⟨by have : (sl s).length ≤ 140737488355328 := ho; rw [sl_len] at this; exact this⟩
  have HL := Keep.mk hl
  have hen := en142
  clear h1 h2 q1 q2 hk hd hz ho ha hl
  go_enter Tryz.func221, Tryz.ntmps221
  go_wp2_with fail
  refine region_Y (S := fun w' => w'.cell? ⟨bl, 0, none⟩ = some (fv 142) ∧ w'.cell? ⟨bp, 0, none⟩ = some (pa b o) ∧ w'.cell? ⟨b, o, none⟩ = some (.string s)) [] (by kernel_rfl) ?_
  have hHeld := HS.out
  refine wpAnyY_take (i := 0) (oi := _) (v := ?_) rfl (by kernel_rfl) (by kernel_rfl) (by kernel_rfl) (by kernel_rfl) (by kernel_rfl) (fun _ _ _ h => h) (Or.inl ⟨by rfl, ?_⟩) (by assumption) ?_
  rotate_left
  · (intro w hSw; obtain ⟨x1, x2, x3⟩ := hSw; go_simp; first | done | (with_reducible rfl))
  simp only [Act.put, List.getElem_toArray, List.getElem_cons_zero, List.setIfInBounds_toArray, List.set_cons_zero, List.set_cons_succ]
  refine wpAnyY_pure (i := 1) (oi := _) (v := ?_) rfl (by kernel_rfl) (by kernel_rfl) (by kernel_rfl) (by kernel_rfl) (fun _ _ _ h => h) (Or.inl ⟨by rfl, ?_⟩) ?_
  rotate_left
  · (intro w hSw; go_simp; first | done | (with_reducible rfl))
  simp only [Act.put, List.getElem_toArray, List.getElem_cons_succ, List.getElem_cons_zero, List.setIfInBounds_toArray, List.set_cons_zero, List.set_cons_succ]
  refine wpAnyY_take (i := 2) (oi := _) (v := ?_) rfl (by kernel_rfl) (by kernel_rfl) (by kernel_rfl) (by kernel_rfl) (by kernel_rfl) (fun _ _ _ h => h) (Or.inl ⟨by rfl, ?_⟩) (by assumption) ?_
  rotate_left
  · (intro w hSw; obtain ⟨x1, x2, x3⟩ := hSw; go_simp; first | done | (with_reducible rfl))
  simp only [Act.put, List.getElem_toArray, List.getElem_cons_succ, List.getElem_cons_zero, List.setIfInBounds_toArray, List.set_cons_zero, List.set_cons_succ]
  refine wpAnyY_pure (i := 3) (oi := _) (v := ?_) rfl (by kernel_rfl) (by kernel_rfl) (by kernel_rfl) (by kernel_rfl) (fun _ _ _ h => h) (Or.inl ⟨by rfl, ?_⟩) ?_
  rotate_left
  · (intro w hSw; go_simp; first | done | (with_reducible rfl))
  simp only [Act.put, List.getElem_toArray, List.getElem_cons_succ, List.getElem_cons_zero, List.setIfInBounds_toArray, List.set_cons_zero, List.set_cons_succ]
  refine wpAnyY_take (i := 4) (oi := _) (v := ?_) rfl (by kernel_rfl) (by kernel_rfl) (by kernel_rfl) (by kernel_rfl) (by kernel_rfl) (fun _ _ _ h => h) (Or.inl ⟨by rfl, ?_⟩) (by assumption) ?_
  rotate_left
  · (intro w hSw; obtain ⟨x1, x2, x3⟩ := hSw; go_simp; first | done | (with_reducible rfl))
  simp only [Act.put, List.getElem_toArray, List.getElem_cons_succ, List.getElem_cons_zero, List.setIfInBounds_toArray, List.set_cons_zero, List.set_cons_succ]
  refine wpAnyY_one (i := 5) (by kernel_rfl) rfl (fun K hK => ?_)
  go_simp
  refine (wTextW_c wb v st s _ HA.out (by have := HL.out; have := HO.out; omega) HO.out).mono ?_
  rintro e w2 ⟨rfl, v', d2⟩
  refine hK.out _ _ (fun q => ⟨fr_cell d2.f HN.out.1 q.1, fr_cell d2.f HN.out.2.1 q.2.1, fr_cell d2.f HN.out.2.2 q.2.2⟩) ?_
  clear hK K
  have HD := Keep.mk ((WDid.ahead (gr_drew _ _) d2 : WDid W w2 wb v _ v'))
  clear d2
  refine wpAnyY_done (by kernel_rfl) ?_ _
  go_wp2_with fail
  go_end0
  exact ⟨rfl, v', HD.out⟩
set_option maxHeartbeats 8000000 in
set_option maxRecDepth 100000 in
theorem layN1 (w : World) (lo hi b o bp : Nat) (h2 : Has w bp [pa b o] 236) (q2 : lo ≤ bp ∧ bp < hi) : LayC w lo hi .C b o 225 #[pa bp 0] := by
  refine ⟨fun _ _ => by kernel_rfl, fun W wb v st x z hk hd hz hr ho ha hl => ?_⟩
  show Calls Tryz.prog 225 #[pa wb 0, pa bp 0] W _
  obtain ⟨a, n, c, rfl, rfl⟩ := hr
  have c1 : W.cell? ⟨bp, 0, none⟩ = some (pa b o) := (hk.has h2 q2.1 q2.2).cellv 0 _ rfl
  have HA := Keep.mk ha
  have hn : (n : Int) < 9223372036854775808 := ho.2
  have hyw : IntKind.u64.wrap (n : Int) = ((n : Nat) : Int) := by rw [wu]; omega
  have HU : Keep (u64 (n : Int) = n) := ⟨by unfold u64; omega⟩
  have HNl : Keep (n < 18446744073709551616) := ⟨by omega⟩
  have HL := Keep.mk hl
  clear h2 q2 hk hd ho ha hl hn
  go_enter Tryz.func225, Tryz.ntmps225
  go_wp2_with fail
  refine (wNumber_c wb v st n 1 _ HA.out HNl.out (by have := HL.out; omega)).mono ?_
  rintro e w2 ⟨rfl, v', d2⟩
  have HD : Keep (WDid W w2 wb v (layK .u1 (.num (n : Int)) st) v') := ⟨by simp only [layK]; rw [HU.out]; exact d2⟩
  clear d2
  go_wp2_with fail
  go_end0
  exact ⟨rfl, v', HD.out⟩
end Go.Proofs.YtldnpebnpbahjaaGreatDoor.Pk.Sn
