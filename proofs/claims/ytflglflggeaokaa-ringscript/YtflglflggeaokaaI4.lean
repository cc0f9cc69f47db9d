/- loops within loops: what was done since a round began. -/
import Derived.Test.YtflglflggeaokaaI3
namespace Go.Proofs.Ytflglflggeaokaa
open Go Go.RowKit Go.Shelf

theorem foot_nil {fx : List Nat} {W : World} {b : Nat} : Foot fx [] W b ↔ b ∈ fx := by simp [Foot]
/-- a store into a block that is new since -/
theorem Did.new {fx : List Nat} {A W : World} (h : Did fx [] A W) {b : Nat} {cs : List Value} {t : TypeId} (hb : Has W b cs t) (hlt : A.heap.size ≤ b) (u : Value) : Did fx [] A (W.setCell ⟨b, 0, none⟩ u) := by
  have f : Fr (fun i => i = b) W (W.setCell ⟨b, 0, none⟩ u) := Fr.ofSome (gr_set _ _ _ _) rfl
  refine ⟨h.k.trans (keeps_fr f (fun i e => .inr (by rw [e]; exact has_cells hb))), ⟨Nat.le_trans h.p.size f.size, fun b' cs' t' hb' hn => ?_⟩⟩
  obtain ⟨q1, q2⟩ := h.p.has b' cs' t' hb' hn
  have := hb'.lt
  exact ⟨q1.fr f (by omega), fun e => q2 (foot_nil.2 (foot_nil.1 e))⟩
theorem Did.turn {fx : List Nat} {A W W' : World} {row : Option Nat} (h : Did fx [] A W) (hg : W.grownBy W' row) (hr : ∀ r, row = some r → A.heap.size ≤ r) : Did fx [] A W' := by
  refine ⟨⟨Nat.le_trans h.k.size hg.size, fun k o hk ho => ?_⟩, ⟨Nat.le_trans h.p.size hg.size, fun b cs t hb hn => ?_⟩⟩
  · have h1 := h.k.same k o hk ho
    have h2 := (Array.getElem?_eq_some_iff.1 hk).1
    rw [hg.block k (by have := h.k.size; omega) (fun e => by have := hr k e.symm; omega), h1]
  · obtain ⟨q1, q2⟩ := h.p.has b cs t hb hn
    have := hb.lt
    exact ⟨q1.kept hg (fun e => by have := hr b e.symm; omega), fun e => q2 (foot_nil.2 (foot_nil.1 e))⟩
theorem Did.own {β : Type} {fx : List Nat} {A : World} {B : Nat} (hB : A.heap.size ≤ B) : OwnFrom B (fun (_ : β) W => Did fx [] A W) :=
  fun _ _ _ _ hs hg hr => hs.turn hg (fun r e => Nat.le_trans hB (hr r e).1)
theorem Did.alloc {fx : List Nat} {A W : World} (h : Did fx [] A W) (o : Obj) : Did fx [] A (W.alloc o) := h.turn (World.grownBy_alloc W o none) (fun r e => by cases e)

variable {F : Fence} {n : Nat} {P : Program}
/-- the outer loop, its left sides no boxes -/
theorem own_h {α : Type} {g : Operand} {ps : Array Tmp} {assign body : Code} {Q : Exit → Act → World → Prop} {a : Act} {w : World}
    (hro : F.round = none) (h1 : 1 ≤ n) {gf : Nat} {lb : Array Value} (hg : a.eval g = .func (.func gf) #[] lb) (hFg : F.fn gf) (eg : ∀ args w, (callFunc gf args).run P w = .ok (.enter gf args) w)
    {encs : α → Array Value} {fx : List Nat} {rf : List Addr} {S Sp : List α → Prop} {N : Nat} (hseq : SeqStopsK F (n - 1) P gf lb encs (Kp fx rf) S Sp N w) (hrf : ∀ f ∈ rf, f.block < w.heap.size) (hps : ∀ x, (encs x).size = ps.size)
    (I : List α → World → Prop) (Ix : Code → List α → World → Prop) (hI : OwnFrom w.heap.size I) (hIx : ∀ c, OwnFrom w.heap.size (Ix c)) (h0 : I [] w) (a₁ : α → Act)
    (hassign : ∀ (l : Nat) (x : α) (W : World) (K : Act → World → Prop), K (a₁ x) W → assign.wpIn (F.inRound l) (n - 1 - 1) P (Exit.then K (fun _ _ _ => False)) { tmps := (ps.zip (encs x)).foldl (fun t (p, v) => t.setIfInBounds p v) a.tmps, defers := [] } W)
    (hbody : ∀ (l : Nat) (pre : List α) (x : α) (W : World), w.heap.size ≤ l → (∃ r, W.heap[l]? = some (.loop r)) → I pre W → pre.length < N → body.wpIn (F.inRound l) (n - 1 - 1) P (ownPostG w.heap.size (Kp fx rf) I Ix (pre ++ [x]) W) (a₁ x) W)
    (hdone : ∀ (D : Nat) (xs : List α) (W : World), w.heap.size ≤ D → S xs → I xs W → W.heap[D]? = some (.deferred (some [])) → Q .normal { a with defers := { target := .collected D, args := #[] } :: a.defers } W)
    (hstop : ∀ (D : Nat) (c : Code) (pre : List α) (W : World), w.heap.size ≤ D → Sp pre → Ix c pre W → W.heap[D]? = some (.deferred (some [])) → c.wpIn F n P Q { a with defers := { target := .collected D, args := #[] } :: a.defers } W) :
    (Code.rangeFunc g ps assign body).wpIn F n P Q a w :=
  wpIn_rangeFunc_ownH hro h1 hg hFg eg hseq Kp.trans (kp_b hrf) (Below.refl _ _) hps I Ix hI hIx h0 (fun x a' _ => a' = a₁ x) (fun _ _ _ _ _ _ hs _ _ => hs)
    (fun l _ x W K hi hK => hassign l x W K (hK _ _ (KeepsFrom.refl _ _) (Kp.refl _ _ _) hi rfl)) (fun l pre x a' W hl hr hi e => by subst e; exact hbody l pre x W hl hr hi) hdone hstop
/-- the inner one -/
theorem own_n {α : Type} {g : Operand} {ps : Array Tmp} {assign body : Code} {Q : Exit → Act → World → Prop} {a : Act} {w : World}
    {l₀ : Nat} {r₀ : Loop} (hro : F.round = some l₀) (hl₀ : w.heap[l₀]? = some (.loop r₀)) (h1 : 1 ≤ n) {gf : Nat} {lb : Array Value} (hg : a.eval g = .func (.func gf) #[] lb) (hFg : F.fn gf) (eg : ∀ args w, (callFunc gf args).run P w = .ok (.enter gf args) w)
    {encs : α → Array Value} {fx : List Nat} {rf : List Addr} {S Sp : List α → Prop} {N : Nat} (hseq : SeqStopsK F (n - 1) P gf lb encs (Kp fx rf) S Sp N w) (hrf : ∀ f ∈ rf, f.block < w.heap.size) (hps : ∀ x, (encs x).size = ps.size)
    (I : List α → World → Prop) (Ix : Code → List α → World → Prop) (hI : OwnFrom w.heap.size I) (hIx : ∀ c, OwnFrom w.heap.size (Ix c)) (h0 : I [] w) (a₁ : α → Act)
    (hassign : ∀ (l : Nat) (x : α) (W : World) (K : Act → World → Prop), K (a₁ x) W → assign.wpIn (F.inRound l) (n - 1 - 1) P (Exit.then K (fun _ _ _ => False)) { tmps := (ps.zip (encs x)).foldl (fun t (p, v) => t.setIfInBounds p v) a.tmps, defers := [] } W)
    (hbody : ∀ (l : Nat) (pre : List α) (x : α) (W : World), I pre W → pre.length < N → body.wpIn (F.inRound l) (n - 1 - 1) P (ownPostG w.heap.size (Kp fx rf) I Ix (pre ++ [x]) W) (a₁ x) W)
    (hdone : ∀ (xs : List α) (W : World), S xs → I xs W → Q .normal a W)
    (hstop : ∀ (c : Code) (pre : List α) (W : World), Sp pre → Ix c pre W → c.wpIn F n P Q a W) :
    (Code.rangeFunc g ps assign body).wpIn F n P Q a w :=
  wpIn_rangeFunc_ownN hro hl₀ h1 hg hFg eg hseq Kp.trans (kp_b hrf) (Below.refl _ _) hps I Ix hI hIx h0 (fun x a' _ => a' = a₁ x) (fun _ _ _ _ _ _ hs _ _ => hs)
    (fun l _ x W K hi hK => hassign l x W K (hK _ _ (KeepsFrom.refl _ _) (Kp.refl _ _ _) hi rfl)) (fun l pre x a' W _ _ hi e => by subst e; exact hbody l pre x W hi) hdone hstop
end Go.Proofs.Ytflglflggeaokaa
