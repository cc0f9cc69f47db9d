/- both rings within a loop: what holds, what was done. -/
import Derived.Test.YtflglflggeaokaaW1
import Derived.Test.YtflglflggeaokaaQ2
namespace Go.Proofs.Ytflglflggeaokaa
open Go Go.RowKit Go.Shelf

/-- the ring, the reference's, the call's own blocks, the marks -/
structure RG (w W : World) (rb : Nat) (v0 : Value) (db : Nat) (a0 : Option Addr) (sz : Nat) (QR QD : List Int) (X : List (Nat × List Value × TypeId)) (Ds : List Nat) : Prop where
  e : ∃ v a c, RingAt W rb v sz QR ∧ DAt W db a c sz QD ∧ (∀ i, RF rb v i → RF rb v0 i ∨ w.heap.size ≤ i) ∧ (∀ i, DF db a i → DF db a0 i ∨ w.heap.size ≤ i) ∧ (∀ i, RF rb v i → ¬ DF db a i) ∧ (∀ p ∈ X, ¬ RF rb v p.1 ∧ ¬ DF db a p.1)
  x : ∀ p ∈ X, Has W p.1 p.2.1 p.2.2
  lo : ∀ p ∈ X, w.heap.size ≤ p.1
  d : ∀ D ∈ Ds, W.heap[D]? = some (.deferred (some []))
  f : Fr (fun i => RF rb v0 i ∨ DF db a0 i) w W
theorem df_cells {W : World} {db : Nat} {a : Option Addr} {c sz : Nat} {Q : List Int} (h : DAt W db a c sz Q) : ∀ i, DF db a i → ∃ o, W.heap[i]? = some o ∧ o.isCells = true := by
  intro i hi
  rcases hi with rfl | ⟨o, e⟩
  · exact has_cells h.h
  · rcases h.row.or with ⟨rfl, _⟩ | ⟨g, o', cs, rfl, hh, _⟩
    · cases e
    · cases e; exact has_cells hh
theorem RG.turn {w W W' : World} {rb : Nat} {v0 : Value} {db : Nat} {a0 : Option Addr} {sz : Nat} {QR QD : List Int} {X : List (Nat × List Value × TypeId)} {Ds : List Nat} {row : Option Nat} (h : RG w W rb v0 db a0 sz QR QD X Ds) (hg : W.grownBy W' row) (hr : ∀ r, row = some r → w.heap.size ≤ r ∧ r ∉ Ds ∧ ∃ o, W.heap[r]? = some o ∧ o.isCells = false) : RG w W' rb v0 db a0 sz QR QD X Ds := by
  obtain ⟨v, a, c, r, d, h1, h2, h3, h4⟩ := h.e
  have f := Fr.of hg
  have no : ∀ b, (∃ o, W.heap[b]? = some o ∧ o.isCells = true) → row ≠ some b := fun b ⟨o2, q3, q4⟩ e => by
    obtain ⟨_, _, o, q1, q2⟩ := hr b e
    rw [q3] at q1; cases q1; rw [q2] at q4; cases q4
  refine ⟨⟨v, a, c, r.fr f (fun i hi => no i (rf_cells r i hi)), d.fr f (fun i hi => no i (df_cells d i hi)), h1, h2, h3, h4⟩, fun p hp => (h.x p hp).fr f (no _ (has_cells (h.x p hp))), h.lo, fun D hD => ?_, h.f.then f (fun i e => .inr (hr i e).1)⟩
  have := h.d D hD
  rw [f.block D (Array.getElem?_eq_some_iff.1 this).1 (fun e => (hr D e).2.1 hD), this]
theorem RG.grown {w W W' : World} {rb : Nat} {v0 : Value} {db : Nat} {a0 : Option Addr} {sz : Nat} {QR QD : List Int} {X : List (Nat × List Value × TypeId)} {Ds : List Nat} (h : RG w W rb v0 db a0 sz QR QD X Ds) (hg : W.grownBy W' none) : RG w W' rb v0 db a0 sz QR QD X Ds := h.turn hg (fun r e => by cases e)
theorem RG.sub {w W : World} {rb : Nat} {v0 : Value} {db : Nat} {a0 : Option Addr} {sz : Nat} {QR QD : List Int} {X X' : List (Nat × List Value × TypeId)} {Ds Ds' : List Nat} (h : RG w W rb v0 db a0 sz QR QD X Ds) (hx : ∀ p ∈ X', p ∈ X) (hd : ∀ p ∈ Ds', p ∈ Ds) : RG w W rb v0 db a0 sz QR QD X' Ds' := by
  obtain ⟨v, a, c, r, d, h1, h2, h3, h4⟩ := h.e
  exact ⟨⟨v, a, c, r, d, h1, h2, h3, fun p hp => h4 p (hx p hp)⟩, fun p hp => h.x p (hx p hp), fun p hp => h.lo p (hx p hp), fun p hp => h.d p (hd p hp), h.f⟩
theorem RG.add {w W W' : World} {rb : Nat} {v0 : Value} {db : Nat} {a0 : Option Addr} {sz : Nat} {QR QD : List Int} {X : List (Nat × List Value × TypeId)} {Ds : List Nat} (h : RG w W rb v0 db a0 sz QR QD X Ds) (hg : W.grownBy W' none) {b : Nat} {cs : List Value} {t : TypeId} (hb : Has W' b cs t) (hlt : W.heap.size ≤ b) : RG w W' rb v0 db a0 sz QR QD ((b, cs, t) :: X) Ds := by
  have h' := h.grown hg
  have hsz := h.f.size
  obtain ⟨v, a, c, r, d, h1, h2, h3, h4⟩ := h.e
  refine ⟨⟨v, a, c, r.kept hg, d.kept hg, h1, h2, h3, fun p hp => ?_⟩, fun p hp => ?_, fun p hp => ?_, h'.d, h'.f⟩
  · rcases List.mem_cons.1 hp with rfl | hp
    · exact ⟨fun e => by have := r.lt _ e; simp only at this; omega, fun e => by have := d.lt _ e; simp only at this; omega⟩
    · exact h4 p hp
  · rcases List.mem_cons.1 hp with rfl | hp
    · exact hb
    · exact h'.x p hp
  · rcases List.mem_cons.1 hp with rfl | hp
    · simp only; omega
    · exact h'.lo p hp
theorem RG.put {w W : World} {rb : Nat} {v0 : Value} {db : Nat} {a0 : Option Addr} {sz : Nat} {QR QD : List Int} {X : List (Nat × List Value × TypeId)} {Ds : List Nat} {b : Nat} {cs : List Value} {t : TypeId} (h : RG w W rb v0 db a0 sz QR QD ((b, cs, t) :: X) Ds) (hne : ∀ p ∈ X, p.1 ≠ b) (u' : Value) : RG w (W.setCell ⟨b, 0, none⟩ u') rb v0 db a0 sz QR QD ((b, cs.set 0 u', t) :: X) Ds := by
  obtain ⟨v, a, c, r, d, h1, h2, h3, h4⟩ := h.e
  have hb := h.x (b, cs, t) (by simp)
  have f : Fr (fun i => i = b) W (W.setCell ⟨b, 0, none⟩ u') := Fr.ofSome (gr_set _ _ _ _) rfl
  have hl := h.lo (b, cs, t) (by simp)
  have hn := h4 (b, cs, t) (by simp)
  refine ⟨⟨v, a, c, r.fr f (fun i hi e => hn.1 (e ▸ hi)), d.fr f (fun i hi e => hn.2 (e ▸ hi)), h1, h2, h3, fun p hp => ?_⟩, fun p hp => ?_, fun p hp => ?_, fun D hD => ?_, h.f.then f (fun i e => .inr (by rw [e]; exact hl))⟩
  · rcases List.mem_cons.1 hp with rfl | hp
    · exact hn
    · exact h4 p (by simp [hp])
  · rcases List.mem_cons.1 hp with rfl | hp
    · exact hb.setCell 0 u'
    · exact (h.x p (by simp [hp])).fr f (hne p hp)
  · rcases List.mem_cons.1 hp with rfl | hp
    · exact hl
    · exact h.lo p (by simp [hp])
  · exact (keeps_fr f (fun i e => .inr (by rw [e]; exact has_cells hb))).same D _ (h.d D hD) rfl

theorem Did.ring2 {fx : List Nat} {rb db sz : Nat} {W W' : World} {Q Q' : List Int} {v v' : Value} (hf : rb ∈ fx) (hdb : ¬ RF rb v db) (hlt : db < W.heap.size) (r0 : RingAt W rb v sz Q) (r : RingAt W' rb v' sz Q') (f : Fr (RF rb v) W W') (hv : ∀ k, v'.ownBlock = some k → v.ownBlock = some k ∨ W.heap.size ≤ k) : Did fx [⟨rb, 1, none⟩, ⟨db, 0, none⟩] W W' := by
  obtain ⟨f0, P0, hh0, _⟩ := r0.st
  obtain ⟨f1, P1, hh1, _⟩ := r.st
  have c0 : W.cell? ⟨rb, 1, none⟩ = some v := hh0.cellv 1 _ rfl
  have c1 : W'.cell? ⟨rb, 1, none⟩ = some v' := hh1.cellv 1 _ rfl
  refine ⟨keeps_fr f (fun i e => .inr (rf_cells r0 i e)), Kp.fr f (fun i e => .inl ?_) (fun i e => ?_)⟩
  · rcases e with rfl | e
    · exact .inl hf
    · exact .inr ⟨_, by simp, v, c0, e⟩
  · rcases e with e | ⟨q, hq, u, h1, h2⟩
    · exact .inl (.inl e)
    · rcases List.mem_cons.1 hq with rfl | hq
      · rw [c1] at h1
        cases h1
        rcases hv i h2 with e | e
        · exact .inl (.inr ⟨_, by simp, v, c0, e⟩)
        · exact .inr e
      · rw [List.mem_singleton] at hq
        subst hq
        rw [cell_block (f.block db hlt hdb)] at h1
        exact .inl (.inr ⟨⟨db, 0, none⟩, by simp, u, h1, h2⟩)
theorem Did.ref2 {fx : List Nat} {rb db sz : Nat} {W W' : World} {Q Q' : List Int} {a a' : Option Addr} {c c' : Nat} (hf : db ∈ fx) (hrb : ¬ DF db a rb) (hlt : rb < W.heap.size) (d0 : DAt W db a c sz Q) (p : DDid W W' db a a' c' sz Q') : Did fx [⟨rb, 1, none⟩, ⟨db, 0, none⟩] W W' := by
  have c0 := d0.h.cellv 0 _ rfl
  have c1 := p.d.h.cellv 0 _ rfl
  refine ⟨keeps_fr p.f (fun i e => .inr (df_cells d0 i e)), Kp.fr p.f (fun i e => .inl ?_) (fun i e => ?_)⟩
  · rcases e with rfl | ⟨o, e⟩
    · exact .inl hf
    · exact .inr ⟨_, by simp, _, c0, by rw [e]; rfl⟩
  · rcases e with e | ⟨q, hq, u, h1, h2⟩
    · exact .inl (.inl e)
    · rcases List.mem_cons.1 hq with rfl | hq
      · rw [cell_block (p.f.block rb hlt hrb)] at h1
        exact .inl (.inr ⟨⟨rb, 1, none⟩, by simp, u, h1, h2⟩)
      · rw [List.mem_singleton] at hq
        subst hq
        rw [c1] at h1
        cases h1
        have h3 : ∃ o, a' = some ⟨i, o, none⟩ := by
          rcases p.d.row.or with ⟨rfl, _⟩ | ⟨g, o, cs, rfl, _⟩
          · cases h2
          · cases h2; exact ⟨o, rfl⟩
        obtain ⟨o, h3⟩ := h3
        rcases p.n i (.inr ⟨o, h3⟩) with e | e
        · rcases e with rfl | ⟨o2, e⟩
          · exact .inl (.inl hf)
          · exact .inl (.inr ⟨⟨db, 0, none⟩, by simp, _, c0, by rw [e]; rfl⟩)
        · exact .inr e

theorem RG.ringOp {w W : World} {rb : Nat} {v0 : Value} {db : Nat} {a0 : Option Addr} {sz : Nat} {QR QD : List Int} {X : List (Nat × List Value × TypeId)} {Ds : List Nat} {W' : World} {QR' : List Int} (h : RG w W rb v0 db a0 sz QR QD X Ds) {v v' : Value} {a : Option Addr} {c : Nat} (r : RingAt W rb v sz QR) (d : DAt W db a c sz QD) (h1 : ∀ i, RF rb v i → RF rb v0 i ∨ w.heap.size ≤ i) (h2 : ∀ i, DF db a i → DF db a0 i ∨ w.heap.size ≤ i) (h3 : ∀ i, RF rb v i → ¬ DF db a i) (h4 : ∀ p ∈ X, ¬ RF rb v p.1 ∧ ¬ DF db a p.1) (r' : RingAt W' rb v' sz QR') (f : Fr (RF rb v) W W') (hv : ∀ k, v'.ownBlock = some k → v.ownBlock = some k ∨ W.heap.size ≤ k) : RG w W' rb v0 db a0 sz QR' QD X Ds := by
  have hsz := h.f.size
  have key : ∀ k, RF rb v' k → RF rb v k ∨ W.heap.size ≤ k := fun k hk => by
    rcases hk with e | e
    · exact .inl (.inl e)
    · rcases hv k e with q | q
      · exact .inl (.inr q)
      · exact .inr q
  refine ⟨⟨v', a, c, r', d.fr f (fun i hi e => h3 i e hi), fun i hi => ?_, h2, fun i hi e => ?_, fun p hp => ⟨fun e => ?_, (h4 p hp).2⟩⟩, fun p hp => (h.x p hp).fr f (h4 p hp).1, h.lo, fun D hD => ?_, h.f.then f (fun i e => ?_)⟩
  · rcases key i hi with q | q
    · exact h1 i q
    · exact .inr (by omega)
  · rcases key i hi with q | q
    · exact h3 i q e
    · have := d.lt i e; omega
  · rcases key _ e with q | q
    · exact (h4 p hp).1 q
    · have := (h.x p hp).lt; omega
  · exact (keeps_fr f (fun i e => .inr (rf_cells r i e))).same D _ (h.d D hD) rfl
  · rcases h1 i e with q | q
    · exact .inl (.inl q)
    · exact .inr q
theorem RG.refOp {w W : World} {rb : Nat} {v0 : Value} {db : Nat} {a0 : Option Addr} {sz : Nat} {QR QD : List Int} {X : List (Nat × List Value × TypeId)} {Ds : List Nat} {W' : World} {QD' : List Int} (h : RG w W rb v0 db a0 sz QR QD X Ds) {v : Value} {a a' : Option Addr} {c c' : Nat} (r : RingAt W rb v sz QR) (d : DAt W db a c sz QD) (h1 : ∀ i, RF rb v i → RF rb v0 i ∨ w.heap.size ≤ i) (h2 : ∀ i, DF db a i → DF db a0 i ∨ w.heap.size ≤ i) (h3 : ∀ i, RF rb v i → ¬ DF db a i) (h4 : ∀ p ∈ X, ¬ RF rb v p.1 ∧ ¬ DF db a p.1) (p : DDid W W' db a a' c' sz QD') : RG w W' rb v0 db a0 sz QR QD' X Ds := by
  have hsz := h.f.size
  refine ⟨⟨v, a', c', r.fr p.f (fun i hi e => h3 i hi e), p.d, h1, fun i hi => ?_, fun i hi e => ?_, fun q hq => ⟨(h4 q hq).1, fun e => ?_⟩⟩, fun q hq => (h.x q hq).fr p.f (h4 q hq).2, h.lo, fun D hD => ?_, h.f.then p.f (fun i e => ?_)⟩
  · rcases p.n i hi with q | q
    · exact h2 i q
    · exact .inr (by omega)
  · rcases p.n i e with q | q
    · exact h3 i hi q
    · have := r.lt i hi; omega
  · rcases p.n _ e with q' | q'
    · exact (h4 q hq).2 q'
    · have := (h.x q hq).lt; omega
  · exact (keeps_fr p.f (fun i e => .inr (df_cells d i e))).same D _ (h.d D hD) rfl
  · rcases h2 i e with q | q
    · exact .inl (.inr q)
    · exact .inr q
theorem rg_pop {w W : World} {rb : Nat} {v0 : Value} {db : Nat} {a0 : Option Addr} {sz : Nat} {QR QD : List Int} {X : List (Nat × List Value × TypeId)} {Ds : List Nat} {y : Int} (h : RG w W rb v0 db a0 sz (y :: QR) QD X Ds) (fx : List Nat) (hf : rb ∈ fx) :
    Calls Try.prog 13 #[.pointer (some ⟨rb, 0, none⟩)] W fun e w' => e = .returned (.tuple #[.int .i64 y, .bool true]) ∧ RG w w' rb v0 db a0 sz QR QD X Ds ∧ Did fx [⟨rb, 1, none⟩, ⟨db, 0, none⟩] W w' := by
  obtain ⟨v, a, c, r, d, h1, h2, h3, h4⟩ := h.e
  refine (pop_c rb v sz QR y W r).mono ?_
  rintro e w' ⟨rfl, r', f, _⟩
  exact ⟨rfl, h.ringOp r d h1 h2 h3 h4 r' f (fun _ e => .inl e), Did.ring2 hf (fun e => h3 db e (.inl rfl)) (d.lt db (.inl rfl)) r r' f (fun _ e => .inl e)⟩
theorem rg_push {w W : World} {rb : Nat} {v0 : Value} {db : Nat} {a0 : Option Addr} {sz : Nat} {QR QD : List Int} {X : List (Nat × List Value × TypeId)} {Ds : List Nat} (h : RG w W rb v0 db a0 sz QR QD X Ds) (fx : List Nat) (hf : rb ∈ fx) (x : Int) (hl : QR.length < sz) :
    Calls Try.prog 11 #[.pointer (some ⟨rb, 0, none⟩), .int .i64 x] W fun e w' => e = .returned (.int .i64 0) ∧ RG w w' rb v0 db a0 sz (QR ++ [x]) QD X Ds ∧ Did fx [⟨rb, 1, none⟩, ⟨db, 0, none⟩] W w' := by
  obtain ⟨v, a, c, r, d, h1, h2, h3, h4⟩ := h.e
  refine (push_c rb v sz QR x W r hl).mono ?_
  rintro e w' ⟨rfl, v', p⟩
  exact ⟨rfl, h.ringOp r d h1 h2 h3 h4 p.r p.f p.n, Did.ring2 hf (fun e => h3 db e (.inl rfl)) (d.lt db (.inl rfl)) r p.r p.f p.n⟩
theorem rg_dpop {w W : World} {rb : Nat} {v0 : Value} {db : Nat} {a0 : Option Addr} {sz : Nat} {QR QD : List Int} {X : List (Nat × List Value × TypeId)} {Ds : List Nat} {y : Int} (h : RG w W rb v0 db a0 sz QR (y :: QD) X Ds) (fx : List Nat) (hf : db ∈ fx) :
    Calls Try.prog 35 #[.pointer (some ⟨db, 0, none⟩)] W fun e w' => e = .returned (.tuple #[.int .i64 y, .bool true]) ∧ RG w w' rb v0 db a0 sz QR QD X Ds ∧ Did fx [⟨rb, 1, none⟩, ⟨db, 0, none⟩] W w' := by
  obtain ⟨v, a, c, r, d, h1, h2, h3, h4⟩ := h.e
  refine (dpop_did db a c sz QD y W d).mono ?_
  rintro e w' ⟨rfl, a', c', p⟩
  exact ⟨rfl, h.refOp r d h1 h2 h3 h4 p, Did.ref2 hf (fun e => h3 rb (.inl rfl) e) (r.lt rb (.inl rfl)) d p⟩
theorem rg_dpush {w W : World} {rb : Nat} {v0 : Value} {db : Nat} {a0 : Option Addr} {sz : Nat} {QR QD : List Int} {X : List (Nat × List Value × TypeId)} {Ds : List Nat} (h : RG w W rb v0 db a0 sz QR QD X Ds) (fx : List Nat) (hf : db ∈ fx) (x : Int) (hl : QD.length < sz) :
    Calls Try.prog 34 #[.pointer (some ⟨db, 0, none⟩), .int .i64 x] W fun e w' => e = .returned (.int .i64 0) ∧ RG w w' rb v0 db a0 sz QR (QD ++ [x]) X Ds ∧ Did fx [⟨rb, 1, none⟩, ⟨db, 0, none⟩] W w' := by
  obtain ⟨v, a, c, r, d, h1, h2, h3, h4⟩ := h.e
  refine (dpush_yes db a c sz QD x W d hl).mono ?_
  rintro e w' ⟨rfl, a', c', p⟩
  exact ⟨rfl, h.refOp r d h1 h2 h3 h4 p, Did.ref2 hf (fun e => h3 rb (.inl rfl) e) (r.lt rb (.inl rfl)) d p⟩
theorem RG.cell {w W : World} {rb : Nat} {v0 : Value} {db : Nat} {a0 : Option Addr} {sz : Nat} {QR QD : List Int} {X : List (Nat × List Value × TypeId)} {Ds : List Nat} (h : RG w W rb v0 db a0 sz QR QD X Ds) (b : Nat) (u : Value) (t : TypeId) (hp : (b, [u], t) ∈ X) : W.cell? ⟨b, 0, none⟩ = some u ∧ W.frozen? ⟨b, 0, none⟩ = false :=
  ⟨(h.x (b, [u], t) hp).cellv 0 _ rfl, (h.x (b, [u], t) hp).frozen _⟩
end Go.Proofs.Ytflglflggeaokaa
