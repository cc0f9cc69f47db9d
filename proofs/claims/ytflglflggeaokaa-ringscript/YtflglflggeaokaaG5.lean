/- what was told: rows of lists; what was taken. -/
import Derived.Test.YtflglflggeaokaaG4
namespace Go.Proofs.Ytflglflggeaokaa
open Go Go.RowKit Go.Shelf

theorem own_fr {S : Nat → Prop} {lo : Nat} {e : TypeId} {w w' : World} {v : Value} {n : Nat} {xs : List Value} (h : w.ownsRow lo e 1 v n xs) (f : Fr S w w') (hs : ∀ k, v.ownBlock = some k → ¬ S k) : w'.ownsRow lo e 1 v n xs := by
  have hl := h.lt
  obtain ⟨h1, h2⟩ := h
  refine ⟨h1, ?_⟩
  rcases h2 with h2 | ⟨g, cap, cur, rfl, a, b, c⟩
  · exact .inl h2
  · exact .inr ⟨g, cap, cur, rfl, a, by rw [f.block g (hl g rfl).2 (hs g rfl), b], c⟩
theorem info22 : ∃ i, Try.prog.info? 22 = some i ∧ i.size = 1 ∧ i.bytes = 24 ∧ i.zero = some (.slice none 0 0) := by
  have h : (Try.prog.info? 22).map (fun i => (i.size, i.bytes, i.zero)) = some (1, 24, some (.slice none 0 0)) := by kernel_rfl
  cases hq : Try.prog.info? 22 with
  | none => simp [hq] at h
  | some i =>
    simp only [hq, Option.map_some, Option.some.injEq, Prod.mk.injEq] at h
    exact ⟨i, rfl, h.1, h.2.1, h.2.2⟩
theorem under55 : Try.prog.underlying 55 = some (.slice 22) := by kernel_rfl
theorem own_slice {lo : Nat} {w : World} {v : Value} {n : Nat} {xs : List Value} (h : w.ownsRow lo 22 1 v n xs) : ∃ a c, v = .slice a n c := by
  rcases h.2 with ⟨rfl, rfl⟩ | ⟨g, cap, cur, rfl, _⟩
  · exact ⟨_, _, rfl⟩
  · exact ⟨_, _, rfl⟩
theorem app55 {lo : Nat} {w : World} {v : Value} {n : Nat} {xs : List Value} (h : w.ownsRow lo 22 1 v n xs) (u : Value) (hu : u.oneCell' = true) (hn : (n + 1) * 24 ≤ 140737488355328) (hlo : lo ≤ w.heap.size) :
    ∃ a' c' w', (Builtin.append_ #[55, 55] 55 #[v, .slice (some ⟨w.heap.size, 0, none⟩) 1 1]).run Try.prog (w.alloc (.cells #[u] 22)) = .ok (.slice a' (n + 1) c') w' ∧ w'.ownsRow lo 22 1 (.slice a' (n + 1) c') (n + 1) (xs ++ [u]) ∧ Fr (fun k => v.ownBlock = some k) w w' ∧ (∀ k, (Value.slice a' (n + 1) c').ownBlock = some k → v.ownBlock = some k ∨ w.heap.size ≤ k) := by
  obtain ⟨i, h1, h2, h3, h4⟩ := info22
  have ga := World.grownBy_alloc w (.cells #[u] 22) none
  obtain ⟨v', w', r1, r2, r3, _, r5⟩ := run_append_own_at (P := Try.prog) (w.alloc (.cells #[u] 22)) lo 55 55 22 i (.slice none 0 0) 1 24 under55 h1 h4 h2 h3 rfl (by decide) v n xs (own_fr h (Fr.ofNone (S := fun _ => False) ga) (fun _ _ e => e)) ⟨w.heap.size, 0, none⟩ 1 1 [u] rfl (fun j x hx => by
      rw [Addr.add_mid, Nat.zero_add]
      refine (Has.newA w #[u] 22).cellv j _ ?_
      match j, hx with
      | 0, hx => exact hx
      | j + 1, hx => simp at hx) (fun x hx => by rw [List.mem_singleton] at hx; rw [hx]; exact hu) (by unfold maxLen; omega) hn (by rw [World.size_alloc]; omega)
  obtain ⟨a', c', rfl⟩ := own_slice r2
  refine ⟨a', c', w', r1, r2, (Fr.ofNone ga).then (Fr.of r3) (fun i e => .inl e), fun k hk => ?_⟩
  rcases r5 with e | e
  · rw [e] at hk; exact .inl hk
  · rw [e] at hk; cases hk; exact .inr (by rw [World.size_alloc]; omega)

/-- what was told and what was wanted: lists alike, in known cells -/
def Twins (X : List (Nat × List Value × TypeId)) (ts ws : List Value) : Prop :=
  ∀ (k : Nat) (t u : Value), ts[k]? = some t → ws[k]? = some u → ∃ a n ca b cb xs, t = .slice a n ca ∧ u = .slice b n cb ∧ n ≤ 4096 ∧ ∀ W : World, (∀ p ∈ X, Has W p.1 p.2.1 p.2.2) → Ints W a n xs ∧ Ints W b n xs
theorem Twins.more {X Y : List (Nat × List Value × TypeId)} {ts ws : List Value} (h : Twins X ts ws) (hs : ∀ p ∈ X, p ∈ Y) : Twins Y ts ws := fun k t u ht hu => by
  obtain ⟨a, n, ca, b, cb, xs, e1, e2, e3, e4⟩ := h k t u ht hu
  exact ⟨a, n, ca, b, cb, xs, e1, e2, e3, fun W hW => e4 W (fun p hp => hW p (hs p hp))⟩
def bookO (lo : Nat) (tv wv : Value) (nt nw : Nat) (ts ws : List Value) (X : List (Nat × List Value × TypeId)) : Ob :=
  ⟨fun i => tv.ownBlock = some i ∨ wv.ownBlock = some i ∨ ∃ p ∈ X, p.1 = i,
   fun W => W.ownsRow lo 22 1 tv nt ts ∧ W.ownsRow lo 22 1 wv nw ws ∧ (∀ i, tv.ownBlock = some i → wv.ownBlock ≠ some i) ∧ (∀ p ∈ X, Has W p.1 p.2.1 p.2.2) ∧ (∀ p ∈ X, tv.ownBlock ≠ some p.1 ∧ wv.ownBlock ≠ some p.1) ∧ Twins X ts ws,
   fun _ _ _ h f hs => ⟨own_fr h.1 f (fun k e => hs k (.inl e)), own_fr h.2.1 f (fun k e => hs k (.inr (.inl e))), h.2.2.1, fun p hp => (h.2.2.2.1 p hp).fr f (hs p.1 (.inr (.inr ⟨p, hp, rfl⟩))), h.2.2.2.2⟩,
   fun _ h i hi => by
    rcases hi with e | e | ⟨p, hp, e⟩
    · exact (h.1.lt i e).2
    · exact (h.2.1.lt i e).2
    · rw [← e]; exact (h.2.2.2.1 p hp).lt⟩
/-- new cells go to the book -/
theorem Sep.book {lo : Nat} {W : World} {tv wv : Value} {nt nw : Nat} {ts ws : List Value} {X Y : List (Nat × List Value × TypeId)} {l : List Ob} (h : Sep lo W (cellsO Y :: bookO lo tv wv nt nw ts ws X :: l)) (hlo : lo ≤ W.heap.size) : Sep lo W (bookO lo tv wv nt nw ts ws (Y ++ X) :: l) := by
  have hm := h.merge
  obtain ⟨p1, p2, p3⟩ := hm.p _ (List.mem_cons_self ..)
  obtain ⟨q1, q2, q3, q4, q5, q6⟩ := p2
  refine hm.upd (A := []) hlo (Fr.refl _ _) ⟨q1, q2, q3, fun p hp => ?_, fun p hp => ?_, q6.more (fun p hp => by simp [hp])⟩ (fun i hi => .inl ?_)
  · rcases List.mem_append.1 hp with hp | hp
    · exact p1 p hp
    · exact q4 p hp
  · rcases List.mem_append.1 hp with hp | hp
    · exact ⟨fun e => p3 p.1 ⟨p, hp, rfl⟩ (.inl e), fun e => p3 p.1 ⟨p, hp, rfl⟩ (.inr (.inl e))⟩
    · exact q5 p hp
  · rcases hi with e | e | ⟨p, hp, e⟩
    · exact .inr (.inl e)
    · exact .inr (.inr (.inl e))
    · rcases List.mem_append.1 hp with hp | hp
      · exact .inl ⟨p, hp, e⟩
      · exact .inr (.inr (.inr ⟨p, hp, e⟩))
/-- told takes one more -/
theorem Sep.tell {lo : Nat} {W : World} {tv wv : Value} {nt nw : Nat} {ts ws : List Value} {X : List (Nat × List Value × TypeId)} {l : List Ob} (h : Sep lo W (bookO lo tv wv nt nw ts ws X :: l)) (hlo : lo ≤ W.heap.size) (u : Value) (hu : u.oneCell' = true) (hn : (nt + 1) * 24 ≤ 140737488355328) (ht : Twins X (ts ++ [u]) ws) :
    ∃ a' c' W', (Builtin.append_ #[55, 55] 55 #[tv, .slice (some ⟨W.heap.size, 0, none⟩) 1 1]).run Try.prog (W.alloc (.cells #[u] 22)) = .ok (.slice a' (nt + 1) c') W' ∧ Sep lo W' (bookO lo (.slice a' (nt + 1) c') wv (nt + 1) nw (ts ++ [u]) ws X :: l) ∧ Fr (fun i => lo ≤ i) W W' := by
  obtain ⟨q1, q2, q3, q4, q5, q6⟩ := h.p _ (List.mem_cons_self ..)
  obtain ⟨a', c', W', r1, r2, r3, r4⟩ := app55 q1 u hu hn hlo
  refine ⟨a', c', W', r1, h.upd (A := []) hlo (r3.mono (fun i e => .inl (.inl e))) ⟨r2, own_fr q2 r3 (fun k e e2 => q3 k e2 e), fun i hi e => ?_, fun p hp => (q4 p hp).fr r3 (q5 p hp).1, fun p hp => ⟨fun e => ?_, (q5 p hp).2⟩, ht⟩ (fun i hi => ?_), r3.mono (fun i e => .inl (q1.lt i e).1)⟩
  · rcases r4 i hi with q | q
    · exact q3 i q e
    · have := (q2.lt i e).2; omega
  · rcases r4 _ e with q | q
    · exact (q5 p hp).1 q
    · have := (q4 p hp).lt; omega
  · rcases hi with e | e
    · rcases r4 i e with q | q
      · exact .inl (.inl q)
      · exact .inr q
    · exact .inl (.inr e)
theorem Sep.want {lo : Nat} {W : World} {tv wv : Value} {nt nw : Nat} {ts ws : List Value} {X : List (Nat × List Value × TypeId)} {l : List Ob} (h : Sep lo W (bookO lo tv wv nt nw ts ws X :: l)) (hlo : lo ≤ W.heap.size) (u : Value) (hu : u.oneCell' = true) (hn : (nw + 1) * 24 ≤ 140737488355328) (ht : Twins X ts (ws ++ [u])) :
    ∃ a' c' W', (Builtin.append_ #[55, 55] 55 #[wv, .slice (some ⟨W.heap.size, 0, none⟩) 1 1]).run Try.prog (W.alloc (.cells #[u] 22)) = .ok (.slice a' (nw + 1) c') W' ∧ Sep lo W' (bookO lo tv (.slice a' (nw + 1) c') nt (nw + 1) ts (ws ++ [u]) X :: l) ∧ Fr (fun i => lo ≤ i) W W' := by
  obtain ⟨q1, q2, q3, q4, q5, q6⟩ := h.p _ (List.mem_cons_self ..)
  obtain ⟨a', c', W', r1, r2, r3, r4⟩ := app55 q2 u hu hn hlo
  refine ⟨a', c', W', r1, h.upd (A := []) hlo (r3.mono (fun i e => .inl (.inr (.inl e)))) ⟨own_fr q1 r3 (fun k e e2 => q3 k e e2), r2, fun i hi e => ?_, fun p hp => (q4 p hp).fr r3 (q5 p hp).2, fun p hp => ⟨(q5 p hp).1, fun e => ?_⟩, ht⟩ (fun i hi => ?_), r3.mono (fun i e => .inl (q2.lt i e).1)⟩
  · rcases r4 i e with q | q
    · exact q3 i hi q
    · have := (q1.lt i hi).2; omega
  · rcases r4 _ e with q | q
    · exact (q5 p hp).2 q
    · have := (q4 p hp).lt; omega
  · rcases hi with e | e | e
    · exact .inl (.inl e)
    · rcases r4 i e with q | q
      · exact .inl (.inr (.inl q))
      · exact .inr q
    · exact .inl (.inr (.inr e))
/-- a store into the play -/
theorem Sep.play {lo : Nat} {W : World} {b : Ob} {pb : Nat} {cs : List Value} {l : List Ob} (h : Sep lo W (b :: playO pb cs :: l)) (hlo : lo ≤ W.heap.size) (j : Nat) (u : Value) : Sep lo (W.setCell ⟨pb, j, none⟩ u) (b :: playO pb (cs.set j u) :: l) ∧ Fr (fun i => lo ≤ i) W (W.setCell ⟨pb, j, none⟩ u) := by
  have hp : Has W pb cs 57 := h.p (playO pb cs) (by simp)
  have f : Fr (fun i => i = pb) W (W.setCell ⟨pb, j, none⟩ u) := Fr.ofSome (gr_set _ _ _ _) rfl
  exact ⟨h.upd (A := [b]) hlo f (hp.setCell j u) (fun i hi => .inl hi), f.mono (fun i e => .inl (by rw [e]; exact h.lo (playO pb cs) (by simp) pb rfl))⟩
theorem rg_take {w W : World} {rb : Nat} {v0 : Value} {db : Nat} {a0 : Option Addr} {sz : Nat} {QR QD : List Int} {X : List (Nat × List Value × TypeId)} {Ds : List Nat} (h : RG w W rb v0 db a0 sz QR QD X Ds) (n : Int) (k : Nat) (hk : k = (min n (QR.length : Nat)).toNat) :
    Calls Try.prog 12 #[.pointer (some ⟨rb, 0, none⟩), .int .i64 n] W fun e w' => e = .returned (.slice (some ⟨W.heap.size, 0, none⟩) k k) ∧ RG w w' rb v0 db a0 sz (QR.drop k) QD ((W.heap.size, (QR.take k).map iv, 3) :: X) Ds := by
  obtain ⟨v, a, c, r, d, h1, h2, h3, h4⟩ := h.e
  refine (take_c rb v sz QR n k W r hk).mono ?_
  rintro e w' ⟨rfl, t⟩
  have g := h.ringOp r d h1 h2 h3 h4 t.r t.f (fun _ e => .inl e)
  have hs := h.f.size
  refine ⟨rfl, ⟨v, a, c, t.r, d.fr t.f (fun i hi e => h3 i e hi), h1, h2, h3, fun p hp => ?_⟩, fun p hp => ?_, fun p hp => ?_, g.d, g.f⟩
  · rcases List.mem_cons.1 hp with rfl | hp
    · exact ⟨fun e => by have := r.lt _ e; simp only at this; omega, fun e => by have := d.lt _ e; simp only at this; omega⟩
    · exact h4 p hp
  · rcases List.mem_cons.1 hp with rfl | hp
    · exact t.h
    · exact g.x p hp
  · rcases List.mem_cons.1 hp with rfl | hp
    · exact hs
    · exact g.lo p hp
theorem rg_dtake {w W : World} {rb : Nat} {v0 : Value} {db : Nat} {a0 : Option Addr} {sz : Nat} {QR QD : List Int} {X : List (Nat × List Value × TypeId)} {Ds : List Nat} (h : RG w W rb v0 db a0 sz QR QD X Ds) (n : Int) (k : Nat) (hk : k = (min n (QD.length : Nat)).toNat) :
    Calls Try.prog 37 #[.pointer (some ⟨db, 0, none⟩), .int .i64 n] W fun e w' => ∃ ao co XW, e = .returned (.slice ao k co) ∧ RG w w' rb v0 db a0 sz QR (QD.drop k) (XW ++ X) Ds ∧ ∀ W' : World, (∀ p ∈ XW, Has W' p.1 p.2.1 p.2.2) → DRow W' ao co (QD.take k) := by
  obtain ⟨v, a, c, r, d, h1, h2, h3, h4⟩ := h.e
  refine (dtake_c db a c sz QD n k W d hk).mono ?_
  rintro e w' ⟨ao, co, a2, c2, rfl, t⟩
  have g := h.refOp r d h1 h2 h3 h4 t.d
  have hs := h.f.size
  obtain ⟨XW, x1, x2⟩ := drow_x t.o t.on
  have h2' : ∀ i, DF db a2 i → DF db a0 i ∨ w.heap.size ≤ i := fun i hi => by
    rcases t.d.n i hi with q | q
    · exact h2 i q
    · exact .inr (by omega)
  refine ⟨ao, co, XW, rfl, ⟨⟨v, a2, c2, r.fr t.d.f (fun i hi e => h3 i hi e), t.d.d, h1, h2', fun i hi e => ?_, fun p hp => ?_⟩, fun p hp => ?_, fun p hp => ?_, g.d, g.f⟩, x2⟩
  · rcases t.d.n i e with q | q
    · exact h3 i hi q
    · have := r.lt i hi; omega
  · rcases List.mem_append.1 hp with hp | hp
    · have q := (x1 p hp).2
      exact ⟨fun e => by have := r.lt _ e; omega, fun e => by have := t.oo _ e; omega⟩
    · refine ⟨(h4 p hp).1, fun e => ?_⟩
      rcases t.d.n _ e with q | q
      · exact (h4 p hp).2 q
      · have := (h.x p hp).lt; omega
  · rcases List.mem_append.1 hp with hp | hp
    · exact (x1 p hp).1
    · exact g.x p hp
  · rcases List.mem_append.1 hp with hp | hp
    · have := (x1 p hp).2; omega
    · exact g.lo p hp
end Go.Proofs.Ytflglflggeaokaa
