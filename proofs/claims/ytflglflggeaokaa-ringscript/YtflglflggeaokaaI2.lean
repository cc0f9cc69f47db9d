/- a ring within a loop over its things: what holds, what was done. -/
import Derived.Test.YtflglflggeaokaaI1
namespace Go.Proofs.Ytflglflggeaokaa
open Go Go.RowKit Go.Shelf

structure RS (w W : World) (rb sz : Nat) (Q : List Int) (X : List (Nat × Value × TypeId)) (Ds : List Nat) : Prop where
  e : ∃ v, RingAt W rb v sz Q ∧ (∀ p ∈ X, ¬ RF rb v p.1) ∧ (∀ i, RF rb v i → w.heap.size ≤ i)
  x : ∀ p ∈ X, Has W p.1 [p.2.1] p.2.2
  lo : ∀ p ∈ X, w.heap.size ≤ p.1
  d : ∀ D ∈ Ds, W.heap[D]? = some (.deferred (some []))
  g : w.grownBy W none

theorem has_cells {W : World} {b : Nat} {cs : List Value} {t : TypeId} (h : Has W b cs t) : ∃ o, W.heap[b]? = some o ∧ o.isCells = true := ⟨_, h, rfl⟩
theorem rf_cells {W : World} {rb : Nat} {v : Value} {sz : Nat} {Q : List Int} (h : RingAt W rb v sz Q) : ∀ i, RF rb v i → ∃ o, W.heap[i]? = some o ∧ o.isCells = true := by
  obtain ⟨f, P, hh, hp, _⟩ := h.st
  intro i hi
  rcases hi with rfl | hi
  · exact has_cells hh
  · rcases hp.or with ⟨rfl, _⟩ | ⟨pb, rfl, hb, _⟩
    · cases hi
    · cases hi; exact has_cells hb
theorem keeps_fr {S : Nat → Prop} {W W' : World} (f : Fr S W W') (hs : ∀ i, S i → W.heap.size ≤ i ∨ ∃ o, W.heap[i]? = some o ∧ o.isCells = true) : KeepsOthers W W' :=
  ⟨f.size, fun k o hk ho => by
    have hlt := (Array.getElem?_eq_some_iff.1 hk).1
    rw [f.block k hlt (fun e => by
      rcases hs k e with q | ⟨o2, h1, h2⟩
      · omega
      · rw [hk] at h1; cases h1; rw [ho] at h2; cases h2), hk]⟩
theorem RS.sub {w W : World} {rb sz : Nat} {Q : List Int} {X X' : List (Nat × Value × TypeId)} {Ds Ds' : List Nat} (h : RS w W rb sz Q X Ds) (hx : ∀ p ∈ X', p ∈ X) (hd : ∀ p ∈ Ds', p ∈ Ds) : RS w W rb sz Q X' Ds' := by
  obtain ⟨v, r, h1, h2⟩ := h.e
  exact ⟨⟨v, r, fun p hp => h1 p (hx p hp), h2⟩, fun p hp => h.x p (hx p hp), fun p hp => h.lo p (hx p hp), fun p hp => h.d p (hd p hp), h.g⟩
/-- what is no cells turned, or new blocks came -/
theorem RS.turn {w W W' : World} {rb sz : Nat} {Q : List Int} {X : List (Nat × Value × TypeId)} {Ds : List Nat} {row : Option Nat} (h : RS w W rb sz Q X Ds) (hg : W.grownBy W' row) (hr : ∀ r, row = some r → w.heap.size ≤ r ∧ r ∉ Ds ∧ ∃ o, W.heap[r]? = some o ∧ o.isCells = false) : RS w W' rb sz Q X Ds := by
  obtain ⟨v, r, h1, h2⟩ := h.e
  have f := Fr.of hg
  have no : ∀ b cs t, Has W b cs t → row ≠ some b := fun b cs t hb e => by
    obtain ⟨_, _, o, q1, q2⟩ := hr b e
    unfold Has at hb
    rw [hb] at q1; cases q1; cases q2
  have no2 : ∀ i, RF rb v i → row ≠ some i := fun i hi e => by
    obtain ⟨_, _, o, q1, q2⟩ := hr i e
    obtain ⟨o2, q3, q4⟩ := rf_cells r i hi
    rw [q3] at q1; cases q1; rw [q2] at q4; cases q4
  refine ⟨⟨v, r.fr f no2, h1, h2⟩, fun p hp => (h.x p hp).fr f (no _ _ _ (h.x p hp)), h.lo, fun D hD => ?_, fr_mine h.g f (fun i e => (hr i e).1)⟩
  have := h.d D hD
  rw [f.block D (Array.getElem?_eq_some_iff.1 this).1 (fun e => (hr D e).2.1 hD), this]
theorem RS.grown {w W W' : World} {rb sz : Nat} {Q : List Int} {X : List (Nat × Value × TypeId)} {Ds : List Nat} (h : RS w W rb sz Q X Ds) (hg : W.grownBy W' none) : RS w W' rb sz Q X Ds := h.turn hg (fun r e => by cases e)
theorem RS.own {β : Type} {w : World} {rb sz : Nat} {B : Nat} (Q : β → List Int) (X : β → List (Nat × Value × TypeId)) (Ds : List Nat) (hB : w.heap.size ≤ B) (hD : ∀ D ∈ Ds, D < B) : OwnFrom B (fun (s : β) W => RS w W rb sz (Q s) (X s) Ds) :=
  fun s W W' row hs hg hr => hs.turn hg (fun r e => ⟨Nat.le_trans hB (hr r e).1, fun hm => by have := hD r hm; have := (hr r e).1; omega, (hr r e).2⟩)
theorem RS.ring {w W W' : World} {rb sz : Nat} {Q Q' : List Int} {X : List (Nat × Value × TypeId)} {Ds : List Nat} {v v' : Value} (h : RS w W rb sz Q X Ds) (r0 : RingAt W rb v sz Q) (h1 : ∀ p ∈ X, ¬ RF rb v p.1) (h2 : ∀ i, RF rb v i → w.heap.size ≤ i) (r : RingAt W' rb v' sz Q') (f : Fr (RF rb v) W W') (hv : ∀ k, v'.ownBlock = some k → v.ownBlock = some k ∨ W.heap.size ≤ k) : RS w W' rb sz Q' X Ds := by
  have hsz := h.g.size
  have key : ∀ k, RF rb v' k → RF rb v k ∨ W.heap.size ≤ k := fun k hk => by
    rcases hk with e | e
    · exact .inl (.inl e)
    · rcases hv k e with q | q
      · exact .inl (.inr q)
      · exact .inr q
  refine ⟨⟨v', r, fun p hp e => ?_, fun i hi => ?_⟩, fun p hp => (h.x p hp).fr f (h1 p hp), h.lo, fun D hD => ?_, fr_mine h.g f h2⟩
  · rcases key _ e with q | q
    · exact h1 p hp q
    · have := (h.x p hp).lt; omega
  · rcases key i hi with q | q
    · exact h2 i q
    · omega
  · have := h.d D hD
    exact (keeps_fr f (fun i e => .inr (rf_cells r0 i e))).same D _ this rfl
theorem RS.put {w W : World} {rb sz : Nat} {Q : List Int} {X : List (Nat × Value × TypeId)} {Ds : List Nat} {b : Nat} {u : Value} {t : TypeId} (h : RS w W rb sz Q ((b, u, t) :: X) Ds) (hne : ∀ p ∈ X, p.1 ≠ b) (u' : Value) : RS w (W.setCell ⟨b, 0, none⟩ u') rb sz Q ((b, u', t) :: X) Ds := by
  obtain ⟨v, r, h1, h2⟩ := h.e
  have hb := h.x (b, u, t) (by simp)
  have f : Fr (fun i => i = b) W (W.setCell ⟨b, 0, none⟩ u') := Fr.ofSome (gr_set _ _ _ _) rfl
  have hl := h.lo (b, u, t) (by simp)
  have hn := h1 (b, u, t) (by simp)
  refine ⟨⟨v, r.fr f (fun i hi e => hn (e ▸ hi)), fun p hp => ?_, h2⟩, fun p hp => ?_, fun p hp => ?_, fun D hD => ?_, fr_mine h.g f (fun i e => by rw [e]; exact hl)⟩
  · rcases List.mem_cons.1 hp with rfl | hp
    · exact hn
    · exact h1 p (by simp [hp])
  · rcases List.mem_cons.1 hp with rfl | hp
    · exact hb.setCell 0 u'
    · exact (h.x p (by simp [hp])).fr f (hne p hp)
  · rcases List.mem_cons.1 hp with rfl | hp
    · exact hl
    · exact h.lo p (by simp [hp])
  · exact (keeps_fr f (fun i e => .inr (by rw [e]; exact has_cells hb))).same D _ (h.d D hD) rfl
theorem RS.add {w W : World} {rb sz : Nat} {Q : List Int} {X : List (Nat × Value × TypeId)} {Ds : List Nat} (h : RS w W rb sz Q X Ds) (u : Value) (t : TypeId) : RS w (W.alloc (.cells #[u] t)) rb sz Q ((W.heap.size, u, t) :: X) Ds := by
  have h' := h.grown (World.grownBy_alloc W (.cells #[u] t) none)
  obtain ⟨v, r, h1, h2⟩ := h'.e
  obtain ⟨v0, r0, h10, h20⟩ := h.e
  have hsz := h.g.size
  obtain ⟨vv, rr, hh1, hh2⟩ := h.e
  refine ⟨⟨vv, rr.kept (World.grownBy_alloc _ _ _), fun p hp => ?_, hh2⟩, fun p hp => ?_, fun p hp => ?_, h'.d, h'.g⟩
  · rcases List.mem_cons.1 hp with rfl | hp
    · intro e; have := rr.lt _ e; simp only at this; omega
    · exact hh1 p hp
  · rcases List.mem_cons.1 hp with rfl | hp
    · exact Has.newA W #[u] t
    · exact h'.x p hp
  · rcases List.mem_cons.1 hp with rfl | hp
    · exact hsz
    · exact h'.lo p hp

/-- what was done since: whatever is no cells lies as it lay; of the cells the footprint alone turned -/
structure Did (fx : List Nat) (rf : List Addr) (W W' : World) : Prop where
  k : KeepsOthers W W'
  p : Kp fx rf W W'
theorem Did.refl (fx : List Nat) (rf : List Addr) (W : World) : Did fx rf W W := ⟨KeepsOthers.refl W, Kp.refl _ _ W⟩
theorem Did.trans {fx : List Nat} {rf : List Addr} {A B C : World} (h : Did fx rf A B) (k : Did fx rf B C) : Did fx rf A C := ⟨h.k.trans k.k, h.p.trans k.p⟩
theorem Did.grown {fx : List Nat} {rf : List Addr} {W W' : World} (hg : W.grownBy W' none) (hrf : ∀ f ∈ rf, f.block < W.heap.size) : Did fx rf W W' := by
  have f : Fr (fun _ => False) W W' := Fr.ofNone hg
  exact ⟨keeps_fr f (fun _ e => e.elim), Kp.fr f (fun _ e => e.elim) (fun b e => .inl (foot_same (fun q hq => cell_block (hg.block _ (hrf q hq) (by simp))) b e))⟩
theorem Did.set {fx : List Nat} {rf : List Addr} {W : World} {b : Nat} {cs : List Value} {t : TypeId} (hb : Has W b cs t) (hf : b ∈ fx) (hrf : ∀ f ∈ rf, f.block ≠ b) (u : Value) : Did fx rf W (W.setCell ⟨b, 0, none⟩ u) := by
  have f : Fr (fun i => i = b) W (W.setCell ⟨b, 0, none⟩ u) := Fr.ofSome (gr_set _ _ _ _) rfl
  refine ⟨keeps_fr f (fun i e => .inr (by rw [e]; exact has_cells hb)), Kp.fr f (fun i e => .inl (.inl (by rw [e]; exact hf))) (fun i e => .inl (foot_same (fun q hq => ?_) i e))⟩
  exact World.cell?_setCell_far _ _ _ _ (Ne.symm (hrf q hq))
theorem Did.ring {fx : List Nat} {rb sz : Nat} {W W' : World} {Q Q' : List Int} {v v' : Value} (hf : rb ∈ fx) (r0 : RingAt W rb v sz Q) (r : RingAt W' rb v' sz Q') (f : Fr (RF rb v) W W') (hv : ∀ k, v'.ownBlock = some k → v.ownBlock = some k ∨ W.heap.size ≤ k) : Did fx [⟨rb, 1, none⟩] W W' := by
  obtain ⟨f0, P0, hh0, _⟩ := r0.st
  obtain ⟨f1, P1, hh1, _⟩ := r.st
  have c0 : W.cell? ⟨rb, 1, none⟩ = some v := hh0.cellv 1 _ rfl
  have c1 : W'.cell? ⟨rb, 1, none⟩ = some v' := hh1.cellv 1 _ rfl
  refine ⟨keeps_fr f (fun i e => .inr (rf_cells r0 i e)), Kp.fr f (fun i e => .inl ?_) (fun i e => ?_)⟩
  · rcases e with rfl | e
    · exact .inl hf
    · exact .inr ⟨_, by simp, v, c0, e⟩
  · rcases e with e | ⟨q, hq, u, h1, h2⟩
    · exact .inl (.inl e)
    · rw [List.mem_singleton] at hq
      subst hq
      rw [c1] at h1
      cases h1
      rcases hv i h2 with e | e
      · exact .inl (.inr ⟨_, by simp, v, c0, e⟩)
      · exact .inr e

theorem rs_push {w W : World} {rb sz : Nat} {Q : List Int} {X : List (Nat × Value × TypeId)} {Ds : List Nat} (h : RS w W rb sz Q X Ds) (fx : List Nat) (hf : rb ∈ fx) (x : Int) (hl : Q.length < sz) :
    Calls Try.prog 11 #[.pointer (some ⟨rb, 0, none⟩), .int .i64 x] W fun e w' => e = .returned (.int .i64 0) ∧ RS w w' rb sz (Q ++ [x]) X Ds ∧ Did fx [⟨rb, 1, none⟩] W w' := by
  obtain ⟨v, r, h1, h2⟩ := h.e
  refine (push_c rb v sz Q x W r hl).mono ?_
  rintro e w' ⟨rfl, v', p⟩
  exact ⟨rfl, h.ring r h1 h2 p.r p.f p.n, Did.ring hf r p.r p.f p.n⟩
theorem rs_take {w W : World} {rb sz : Nat} {Q : List Int} {X : List (Nat × Value × TypeId)} {Ds : List Nat} (h : RS w W rb sz Q X Ds) (fx : List Nat) (hf : rb ∈ fx) (n : Int) (k : Nat) (hk : k = (min n (Q.length : Nat)).toNat) :
    Calls Try.prog 12 #[.pointer (some ⟨rb, 0, none⟩), .int .i64 n] W fun e w' => e = .returned (.slice (some ⟨W.heap.size, 0, none⟩) k k) ∧ RS w w' rb sz (Q.drop k) X Ds ∧ Did fx [⟨rb, 1, none⟩] W w' := by
  obtain ⟨v, r, h1, h2⟩ := h.e
  refine (take_c rb v sz Q n k W r hk).mono ?_
  rintro e w' ⟨rfl, t⟩
  exact ⟨rfl, h.ring r h1 h2 t.r t.f (fun _ e => .inl e), Did.ring hf r t.r t.f (fun _ e => .inl e)⟩
end Go.Proofs.Ytflglflggeaokaa
