import Derived.Test.YtplcicbpkbamnaaDoorX25
/- LobbyBounds: what stays so behind any call -/
namespace Go.Proofs.YtplcicbpkbamnaaDoor.Lo
open Go Go.RowKit Go.Maps

theorem Wl.act {X : Lb} (h : Wl X) (ok : LbOk X) (o : Opr) : Wl (actX X o) := by
  unfold actX
  split
  · exact h.join ok ..
  · split
    · unfold acpX
      cases hf : fds X o.ses with
      | none => exact h
      | some s =>
        refine h.upd ok hf ?_ ?_ ?_
        · unfold accE; split <;> rfl
        · unfold accE; split <;> rfl
        · unfold accE; split <;> rfl
    · split
      · unfold levX
        cases hf : fds X o.ses with
        | none => exact h
        | some s => exact h.sub _
      · split
        · exact h.sub _
        · split
          · exact h.refill
          · split
            · unfold sntX
              cases hf : fds X o.ses with
              | none => exact h
              | some s => exact h.upd ok hf rfl rfl rfl
            · exact h
theorem act_most {X : Lb} {o : Opr} : (actX X o).most = X.most := by
  unfold actX
  split
  · unfold joiX; cases joiS X _ _ _ _ _ <;> rfl
  · split
    · unfold acpX; cases fds X o.ses <;> rfl
    · split
      · unfold levX; cases fds X o.ses <;> rfl
      · split
        · rfl
        · split
          · rfl
          · split
            · unfold sntX; cases fds X o.ses <;> rfl
            · rfl
theorem joi_most {X : Lb} {f n s m : ByteArray} {t : Nat} : (joiX X f n s m t).most = X.most := by
  unfold joiX; cases joiS X f n s m t <;> rfl
theorem Wl.new {c : Cf} {P : List Pr} {X : Lb} (h : newL c P = some X) : Wl X ∧ (X.most : Int) = c.ses := by
  obtain ⟨_, _, hS, _⟩ := new_ok h
  refine ⟨⟨by rw [hS]; simp, by rw [hS]; simp, fun s hs => by rw [hS] at hs; cases hs⟩, ?_⟩
  unfold newL at h
  split at h
  · rename_i q
    obtain ⟨A, _, rfl⟩ := Option.map_eq_some_iff.1 h
    show ((c.ses.toNat : Nat) : Int) = _
    omega
  · cases h
end Go.Proofs.YtplcicbpkbamnaaDoor.Lo

