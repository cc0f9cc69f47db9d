import Derived.Test.YtplcicbpkbamnabGreatDoorX29
/- LobbyKeys' walk -/
namespace Go.Proofs.YtplcicbpkbamnabGreatDoor.Lo
open Go Go.RowKit Go.Maps

/-- a script as it is handed in -/
structure SrO (W : World) (v : Value) (L : List Opr) : Prop where
  o : ∃ a cap, v = .slice a L.length cap ∧ (0 < L.length → ∃ g o, a = some ⟨g, o, none⟩ ∧ ∀ (j : Nat) (x : Opr), L[j]? = some x → W.rangeAt g (o + j * 10) (opv x))
  s : ∀ x ∈ L, OpOk x
set_option maxRecDepth 100000 in
theorem SrO.kept {W W' : World} {v : Value} {L : List Opr} (h : SrO W v L) (g : W.grownBy W' none) : SrO W' v L := by
  obtain ⟨a, cap, e, q⟩ := h.o
  refine ⟨⟨a, cap, e, fun hn => ?_⟩, h.s⟩
  obtain ⟨b, o, e1, q⟩ := q hn
  exact ⟨b, o, e1, fun j x hx i v hv => g.cell (q j x hx i v hv) (by simp)⟩
set_option maxRecDepth 100000 in
theorem fld24 (ab : Nat) (W : World) : (Instr.field 24 (.agg #[iv 2, iv 0, iv 8, iv 2, iv 0, iv 0, iv 3, iv 0, iv 0, iv 0, .string ⟨#[]⟩, .string ⟨#[]⟩, .slice (some ⟨ab, 0, none⟩) 3 3]) 12).run Tryz.prog W = .ok (.slice (some ⟨ab, 0, none⟩) 3 3) W := by kernel_rfl
abbrev sBob : ByteArray := ⟨#[66, 111, 98]⟩
set_option maxRecDepth 100000 in
theorem a_cpy : cpyL pP = some aA := by kernel_rfl
set_option maxRecDepth 100000 in
theorem a_bob : fdI aA sBob = some 1 := by kernel_rfl
set_option maxRecDepth 100000 in
theorem new_A {c : Cf} {X : Lb} (h : newL c pP = some X) : X.A = aA := by
  unfold newL at h
  split at h
  · rw [a_cpy] at h
    simp only [Option.map_some, Option.some.injEq] at h
    rw [← h]
  · cases h
/-- Bob begins the first session -/
theorem bob_one {c : Cf} {X : Lb} (h : newL c pP = some X) (t0 t1 t2 : ByteArray) (hf : t0.size ≤ 281474976710656) : ∃ e, joiS X t0 t1 t2 sBob 5 = some e ∧ joiC X sBob = 0 ∧ e.num = 1 ∧ LbOk (joiX X t0 t1 t2 sBob 5) ∧ Up (joiX X t0 t1 t2 sBob 5) ∧ One (joiX X t0 t1 t2 sBob 5) (drv (rep 98) t1 t2 1) t0 ∧ fds (joiX X t0 t1 t2 sBob 5) 1 = some e ∧ (joiX X t0 t1 t2 sBob 5).next = 2 ∧ (joiX X t0 t1 t2 sBob 5).A = aA := by
  obtain ⟨ok, up, hS, hn⟩ := new_ok h
  have hA := new_A h
  have hfd : fdI X.A sBob = some 1 := by rw [hA]; exact a_bob
  have hp : plyS X 1 = false := by unfold plyS; rw [hS]; rfl
  have hl : X.S.length < X.most := by rw [hS]; exact ok.m1
  have q := joi_yes hfd hp hl t0 t1 t2 5
  have hX : joiX X t0 t1 t2 sBob 5 = { X with next := X.next + 1, S := X.S ++ [joiE X t0 t1 t2 sBob 5 1] } := by unfold joiX; rw [q.2]
  refine ⟨_, q.2, q.1, hn, ok.join (by rw [hn]; omega) (by decide) (by decide) hf (fun a z => fdI_lt z), up.join ok .., ?_, ?_, ?_, ?_⟩
  · rw [hX]
    refine ⟨by show 2 ≤ X.next + 1; omega, fun s hs _ => ?_⟩
    have hs' : s ∈ X.S ++ [joiE X t0 t1 t2 sBob 5 1] := hs
    rw [hS, List.nil_append, List.mem_singleton] at hs'
    subst hs'
    refine ⟨?_, rfl⟩
    show drv (((X.A[1]?).map Ac.sc).getD []) t1 t2 X.next = _
    rw [hA, hn]
    rfl
  · rw [hX]
    show (X.S ++ [joiE X t0 t1 t2 sBob 5 1]).find? _ = _
    rw [hS, List.nil_append, List.find?_cons]
    have : (joiE X t0 t1 t2 sBob 5 1).num = 1 := hn
    simp [this]
  · rw [hX]; show X.next + 1 = 2; omega
  · rw [hX]; exact hA
set_option maxRecDepth 100000 in
theorem act_A {X : Lb} {o : Opr} : (actX X o).A = X.A := by
  unfold actX
  split
  · unfold joiX; split <;> rfl
  · split
    · unfold acpX; cases fds X o.ses <;> rfl
    · split
      · unfold levX; cases fds X o.ses <;> rfl
      · split
        · rfl
        · split
          · rfl
          · split
            · unfold sntX; cases fds X o.ses <;> rfl
            · rfl
set_option maxRecDepth 100000 in
theorem under50 : ∃ d, Tryz.prog.underlying 40 = some d ∧ d.isRow = true := ⟨_, Tryz.underlying40, rfl⟩
set_option maxRecDepth 100000 in
theorem info50 : (Tryz.prog.info? 40).map (·.size) = some 10 := by kernel_rfl
abbrev sBOB : ByteArray := ⟨#[66, 79, 66]⟩
set_option maxRecDepth 100000 in
theorem a_BOB : fdI aA sBOB = some 1 := by kernel_rfl
set_option maxRecDepth 100000 in
theorem lev_A {X : Lb} {k : Nat} : (levX X k).A = X.A ∧ (levX X k).next = X.next := by
  unfold levX; cases fds X k <;> exact ⟨rfl, rfl⟩
/-- Bob again -/
theorem bob_again {Y : Lb} (hA : Y.A = aA) (ok : LbOk Y) (hn : 2 ≤ Y.next) (h1 : fds Y 1 = none) (t0 t1 t2 : ByteArray) : (joiS Y t0 t1 t2 sBOB 5 = none ∧ joiC Y sBOB ≠ 0 ∧ joiX Y t0 t1 t2 sBOB 5 = Y) ∨ ∃ e, joiS Y t0 t1 t2 sBOB 5 = some e ∧ joiC Y sBOB = 0 ∧ e.num = Y.next ∧ fds (joiX Y t0 t1 t2 sBOB 5) 1 = none ∧ keyS (joiX Y t0 t1 t2 sBOB 5) Y.next = txt (drv (rep 98) t1 t2 Y.next) := by
  have hfd : fdI Y.A sBOB = some 1 := by rw [hA]; exact a_BOB
  cases hp : plyS Y 1 with
  | true =>
    have q := joi_taken hfd hp t0 t1 t2 5
    exact .inl ⟨q.2, by rw [q.1]; decide, by unfold joiX; rw [q.2]⟩
  | false =>
    by_cases hl : Y.most ≤ Y.S.length
    · have q := joi_full hfd hp hl t0 t1 t2 5
      exact .inl ⟨q.2, by rw [q.1]; decide, by unfold joiX; rw [q.2]⟩
    · have q := joi_yes hfd hp (Nat.lt_of_not_le hl) t0 t1 t2 5
      refine .inr ⟨_, q.2, q.1, rfl, ?_, ?_⟩
      · unfold joiX
        rw [q.2]
        show (Y.S ++ [joiE Y t0 t1 t2 sBOB 5 1]).find? _ = none
        rw [List.find?_append]
        have e1 : Y.S.find? (fun s => decide (s.num = 1)) = none := h1
        rw [e1, List.find?_cons]
        have e2 : decide ((joiE Y t0 t1 t2 sBOB 5 1).num = 1) = false := decide_eq_false (by show ¬ Y.next = 1; omega)
        rw [e2]
        rfl
      · unfold joiX
        rw [q.2]
        unfold keyS fds
        show (((Y.S ++ [joiE Y t0 t1 t2 sBOB 5 1]).find? fun s => decide (s.num = Y.next)).map fun s => txt s.key).getD _ = _
        have e1 : Y.S.find? (fun s => decide (s.num = Y.next)) = none := by
          rw [List.find?_eq_none]
          intro z hz
          have := (ok.s z hz).2.1
          simp only [decide_eq_true_eq]
          omega
        rw [List.find?_append, e1, List.find?_cons]
        have e2 : decide ((joiE Y t0 t1 t2 sBOB 5 1).num = Y.next) = true := decide_eq_true rfl
        rw [e2]
        show txt (drv (((Y.A[1]?).map Ac.sc).getD []) t1 t2 Y.next) = _
        rw [hA]
        rfl
set_option maxRecDepth 100000 in
theorem cfv_len (c : Cf) (v : Value) : (cfv c v).toList.length = 13 := rfl
end Go.Proofs.YtplcicbpkbamnabGreatDoor.Lo

