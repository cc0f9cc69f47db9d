/- WindowScript's state. -/
import Derived.Test.YtollbodeafdhkaaC3
import Derived.Test.YtollbodeafdhkaaC4
namespace Go.Proofs.Ytollbodeafdhkaa
open Go Go.RowKit
abbrev pv (p : Nat) : Value := .pointer (some ⟨p, 0, none⟩)
/-- two windows in a row of cells, the reference's two beside them -/
structure ST (w0 w : World) (wb db p0 p1 : Nat) (sv0 sv1 : Value) (h0 B0 h1 B1 : Nat) (L0 L1 : List Nat) (n : Nat) : Prop where
  a : Has w wb [uv h0, uv B0, uv h1, uv B1] 41
  d : Has w db [pv p0, pv p1] 42
  r0 : RD w0 w p0 sv0 L0 h0
  r1 : RD w0 w p1 sv1 L1 h1
  v0 : Inv h0 B0 L0
  v1 : Inv h1 B1 L1
  hh0 : h0 < 18446744073709551616
  hh1 : h1 < 18446744073709551616
  n0 : L0.length ≤ n
  n1 : L1.length ≤ n
  wlo : w0.heap.size ≤ wb
  dlo : w0.heap.size ≤ db
  ne : wb ≠ db ∧ wb ≠ p0 ∧ wb ≠ p1 ∧ db ≠ p0 ∧ db ≠ p1 ∧ p0 ≠ p1
  s0 : ∀ g, sv0.ownBlock = some g → g ≠ wb ∧ g ≠ db ∧ g ≠ p0 ∧ g ≠ p1 ∧ sv1.ownBlock ≠ some g
  s1 : ∀ g, sv1.ownBlock = some g → g ≠ wb ∧ g ≠ db ∧ g ≠ p0 ∧ g ≠ p1 ∧ sv0.ownBlock ≠ some g
  g : w0.grownBy w none
theorem ST.kept {w0 w w' : World} {wb db p0 p1 : Nat} {sv0 sv1 : Value} {h0 B0 h1 B1 : Nat} {L0 L1 : List Nat} {n : Nat} (t : ST w0 w wb db p0 p1 sv0 sv1 h0 B0 h1 B1 L0 L1 n) (g : w.grownBy w' none) : ST w0 w' wb db p0 p1 sv0 sv1 h0 B0 h1 B1 L0 L1 n :=
  { t with a := t.a.kept g (by simp), d := t.d.kept g (by simp), r0 := t.r0.fr (Fr.ofNone (S := fun _ => False) g) (fun e => e) (fun _ _ e => e), r1 := t.r1.fr (Fr.ofNone (S := fun _ => False) g) (fun e => e) (fun _ _ e => e), g := t.g.trans g }
theorem row_lt {w0 w : World} {e : TypeId} {s : Nat} {sv : Value} {n : Nat} {xs : List Value} (h : w.ownsRow w0.heap.size e s sv n xs) {g : Nat} (hg : sv.ownBlock = some g) : w0.heap.size ≤ g ∧ g < w.heap.size := h.lt g hg
theorem app_none (w : World) : (Builtin.append_ #[22, 22] 22 #[.slice none 0 0, .slice none 0 0]).run Try.prog w = .ok (.slice none 0 0) w := by
  obtain ⟨i, hi, h1, h2, h3⟩ := info24
  simp [Builtin.append_, run_underlying Try.underlying22, sizeOf, typeInfo, hi, Builtin.lenOf, Builtin.firstCells]
/-- all that was seen, in a row of its own -/
theorem RD.dup {w0 w : World} {p : Nat} {sv : Value} {L : List Nat} {h : Nat} (r : RD w0 w p sv L h) (hn : L.length ≤ 1000) (g0 : w0.heap.size ≤ w.heap.size) :
    ∃ v' w', (Builtin.append_ #[22, 22] 22 #[.slice none 0 0, sv]).run Try.prog w = .ok v' w' ∧ w'.ownsRow w0.heap.size 24 1 v' L.length (L.map uv) ∧ w.grownBy w' none ∧ (∀ g, v'.ownBlock = some g → w.heap.size ≤ g) := by
  obtain ⟨i, hi, h1, h2, h3⟩ := info24
  rcases Nat.eq_zero_or_pos L.length with hz | hz
  · have hr := r.row
    obtain ⟨_, q⟩ := hr
    have hL : L = [] := List.eq_nil_of_length_eq_zero hz
    subst hL
    rcases q with ⟨rfl, _⟩ | ⟨g, cap, cur, rfl, _⟩
    · exact ⟨_, w, app_none w, World.ownsRow_nil _ _ _ _, World.grownBy.refl _ _, fun g q => by cases q⟩
    · obtain ⟨v', w', q1, q2, q3, _, q5⟩ := run_append_own_at (P := Try.prog) w w0.heap.size 22 22 24 i _ 1 8 Try.underlying22 hi h3 h1 h2 rfl (by omega) (.slice none 0 0) 0 [] (World.ownsRow_nil _ _ _ _) ⟨g, 0, none⟩ 0 cap [] rfl (by simp) (by simp) (by simp) (by simp) g0
      refine ⟨v', w', q1, q2, q3, fun k hk => ?_⟩
      rcases q5 with q | q
      · rw [q] at hk; cases hk
      · rw [q] at hk; cases hk; exact Nat.le_refl _
  · obtain ⟨g, c, rfl, hc⟩ := own_cell r.row hz
    obtain ⟨v', w', q1, q2, q3, _, q5⟩ := run_append_own_at (P := Try.prog) w w0.heap.size 22 22 24 i _ 1 8 Try.underlying22 hi h3 h1 h2 rfl (by omega) (.slice none 0 0) 0 [] (World.ownsRow_nil _ _ _ _) ⟨g, 0, none⟩ L.length c (L.map uv) (by simp) (fun j u hu => by rw [Addr.add_mid, Nat.zero_add]; exact (hc j u hu).1) (fun u hu => by
      obtain ⟨x, _, rfl⟩ := List.mem_map.1 hu
      rfl) (by unfold maxLen; omega) (by omega) g0
    refine ⟨v', w', q1, by simpa using q2, q3, fun k hk => ?_⟩
    rcases q5 with q | q
    · rw [q] at hk; cases hk
    · rw [q] at hk; cases hk; exact Nat.le_refl _
theorem ST.rw0 {w0 w : World} {wb db p0 p1 : Nat} {sv0 sv1 : Value} {h0 B0 h1 B1 : Nat} {L0 L1 : List Nat} {n : Nat} (t : ST w0 w wb db p0 p1 sv0 sv1 h0 B0 h1 B1 L0 L1 n) (hn : n ≤ 900) : ∃ a c, sv0 = .slice a L0.length c ∧ RW w p0 a L0.length c L0 h0 := t.r0.rw (by have := t.n0; omega)
theorem ST.wo0 {w0 w : World} {wb db p0 p1 : Nat} {sv0 sv1 : Value} {h0 B0 h1 B1 : Nat} {L0 L1 : List Nat} {n : Nat} (t : ST w0 w wb db p0 p1 sv0 sv1 h0 B0 h1 B1 L0 L1 n) : WO w wb 0 [uv h0, uv B0, uv h1, uv B1] h0 B0 := ⟨t.a, rfl, rfl, t.hh0, t.v0.lt⟩
/-- behind the Mark of number 0 -/
theorem ST.half0 {w0 w : World} {wb db p0 p1 : Nat} {sv0 sv1 : Value} {h0 B0 h1 B1 : Nat} {L0 L1 : List Nat} {n : Nat} (t : ST w0 w wb db p0 p1 sv0 sv1 h0 B0 h1 B1 L0 L1 n) {w1 : World} (g : w.grownBy w1 (some wb)) : RD w0 w1 p0 sv0 L0 h0 ∧ RD w0 w1 p1 sv1 L1 h1 ∧ Has w1 db [pv p0, pv p1] 42 ∧ w0.heap.size ≤ w1.heap.size ∧ w0.grownBy w1 none :=
  ⟨t.r0.fr (Fr.of g) (fun e => by cases e; exact t.ne.2.1 rfl) (fun k hk e => by cases e; exact (t.s0 _ hk).1 rfl),
   t.r1.fr (Fr.of g) (fun e => by cases e; exact t.ne.2.2.1 rfl) (fun k hk e => by cases e; exact (t.s1 _ hk).1 rfl),
   t.d.kept g (by have := t.ne.1; simpa using Ne.symm this), Nat.le_trans t.g.size g.size, gr_new t.g g t.wlo⟩
theorem ST.mark0 {w0 w : World} {wb db p0 p1 : Nat} {sv0 sv1 : Value} {h0 B0 h1 B1 : Nat} {L0 L1 : List Nat} {n : Nat} (t : ST w0 w wb db p0 p1 sv0 sv1 h0 B0 h1 B1 L0 L1 n) {w1 w2 : World} {sv' : Value} (s : Nat) (hs : s < 18446744073709551616) (g : w.grownBy w1 (some wb)) (ha : Has w1 wb [uv (mkH h0 B0 s), uv (mkB h0 B0 s), uv h1, uv B1] 41)
    (hr : RD w0 w2 p0 sv' (mkL h0 B0 s L0) (mkH h0 B0 s)) (f : Fr (fun i => i = p0 ∨ sv0.ownBlock = some i) w1 w2) (hb : ∀ g, sv'.ownBlock = some g → sv0.ownBlock = some g ∨ w1.heap.size ≤ g) :
    ST w0 w2 wb db p0 p1 sv' sv1 (mkH h0 B0 s) (mkB h0 B0 s) h1 B1 (mkL h0 B0 s L0) L1 (n + 1) := by
  obtain ⟨q1, q2, q3, q4, q5⟩ := t.half0 g
  have nS : ∀ i, (i = p0 ∨ sv0.ownBlock = some i) → w0.heap.size ≤ i := fun i e => by
    rcases e with rfl | e
    · exact t.r0.lo
    · exact (row_lt t.r0.row e).1
  have hwb : ¬ (wb = p0 ∨ sv0.ownBlock = some wb) := fun e => by
    rcases e with e | e
    · exact t.ne.2.1 e
    · exact (t.s0 _ e).1 rfl
  have hdb : ¬ (db = p0 ∨ sv0.ownBlock = some db) := fun e => by
    rcases e with e | e
    · exact t.ne.2.2.2.1 e
    · exact (t.s0 _ e).2.1 rfl
  have hpy : ¬ (p1 = p0 ∨ sv0.ownBlock = some p1) := fun e => by
    rcases e with e | e
    · exact t.ne.2.2.2.2.2 e.symm
    · exact (t.s0 _ e).2.2.2.1 rfl
  have hsy : ∀ k, sv1.ownBlock = some k → ¬ (k = p0 ∨ sv0.ownBlock = some k) := fun k hk e => by
    rcases e with e | e
    · exact (t.s1 k hk).2.2.1 e
    · exact (t.s1 k hk).2.2.2.2 e
  have hbig : ∀ g, w1.heap.size ≤ g → g ≠ wb ∧ g ≠ db ∧ g ≠ p0 ∧ g ≠ p1 ∧ sv1.ownBlock ≠ some g := fun g hg => by
    have e1 := ha.lt
    have e2 := q3.lt
    have e3 := q1.has.lt
    have e4 := q2.has.lt
    refine ⟨by omega, by omega, by omega, by omega, fun e => ?_⟩
    have := (row_lt q2.row e).2
    omega
  have hnew : ∀ g, sv'.ownBlock = some g → g ≠ wb ∧ g ≠ db ∧ g ≠ p0 ∧ g ≠ p1 ∧ sv1.ownBlock ≠ some g := fun g hg => by
    rcases hb g hg with e | e
    · exact t.s0 g e
    · exact hbig g e
  have hold : ∀ g, sv1.ownBlock = some g → g ≠ wb ∧ g ≠ db ∧ g ≠ p0 ∧ g ≠ p1 ∧ sv'.ownBlock ≠ some g := fun g hg => ⟨(t.s1 g hg).1, (t.s1 g hg).2.1, (t.s1 g hg).2.2.1, (t.s1 g hg).2.2.2.1, fun e => (hnew g e).2.2.2.2 hg⟩
  have hlen : (mkL h0 B0 s L0).length ≤ n + 1 := by
    have := t.n0
    unfold mkL
    split
    · simp; omega
    · omega
  exact ⟨ha.fr f hwb, q3.fr f hdb, hr, q2.fr f hpy hsy, t.v0.markL s, t.v1, mkH_lt t.hh0 hs, t.hh1, hlen, by have := t.n1; omega, t.wlo, t.dlo, t.ne, hnew, hold, (by
    have fz := f.then (Fr.refl (fun _ => False) w2) (fun i e => e.elim)
    exact ⟨fz.os.trans q5.os, fz.tape.trans q5.tape, fz.output.trans q5.output, Nat.le_trans q5.size fz.size, fun i hi _ => (fz.block i (by omega) (fun e => by have := nS i e; omega)).trans (q5.block i hi (by simp))⟩)⟩
theorem ST.rw1 {w0 w : World} {wb db p0 p1 : Nat} {sv0 sv1 : Value} {h0 B0 h1 B1 : Nat} {L0 L1 : List Nat} {n : Nat} (t : ST w0 w wb db p0 p1 sv0 sv1 h0 B0 h1 B1 L0 L1 n) (hn : n ≤ 900) : ∃ a c, sv1 = .slice a L1.length c ∧ RW w p1 a L1.length c L1 h1 := t.r1.rw (by have := t.n1; omega)
theorem ST.wo1 {w0 w : World} {wb db p0 p1 : Nat} {sv0 sv1 : Value} {h0 B0 h1 B1 : Nat} {L0 L1 : List Nat} {n : Nat} (t : ST w0 w wb db p0 p1 sv0 sv1 h0 B0 h1 B1 L0 L1 n) : WO w wb 2 [uv h0, uv B0, uv h1, uv B1] h1 B1 := ⟨t.a, rfl, rfl, t.hh1, t.v1.lt⟩
/-- behind the Mark of number 1 -/
theorem ST.half1 {w0 w : World} {wb db p0 p1 : Nat} {sv0 sv1 : Value} {h0 B0 h1 B1 : Nat} {L0 L1 : List Nat} {n : Nat} (t : ST w0 w wb db p0 p1 sv0 sv1 h0 B0 h1 B1 L0 L1 n) {w1 : World} (g : w.grownBy w1 (some wb)) : RD w0 w1 p1 sv1 L1 h1 ∧ RD w0 w1 p0 sv0 L0 h0 ∧ Has w1 db [pv p0, pv p1] 42 ∧ w0.heap.size ≤ w1.heap.size ∧ w0.grownBy w1 none :=
  ⟨t.r1.fr (Fr.of g) (fun e => by cases e; exact t.ne.2.2.1 rfl) (fun k hk e => by cases e; exact (t.s1 _ hk).1 rfl),
   t.r0.fr (Fr.of g) (fun e => by cases e; exact t.ne.2.1 rfl) (fun k hk e => by cases e; exact (t.s0 _ hk).1 rfl),
   t.d.kept g (by have := t.ne.1; simpa using Ne.symm this), Nat.le_trans t.g.size g.size, gr_new t.g g t.wlo⟩
theorem ST.mark1 {w0 w : World} {wb db p0 p1 : Nat} {sv0 sv1 : Value} {h0 B0 h1 B1 : Nat} {L0 L1 : List Nat} {n : Nat} (t : ST w0 w wb db p0 p1 sv0 sv1 h0 B0 h1 B1 L0 L1 n) {w1 w2 : World} {sv' : Value} (s : Nat) (hs : s < 18446744073709551616) (g : w.grownBy w1 (some wb)) (ha : Has w1 wb [uv h0, uv B0, uv (mkH h1 B1 s), uv (mkB h1 B1 s)] 41)
    (hr : RD w0 w2 p1 sv' (mkL h1 B1 s L1) (mkH h1 B1 s)) (f : Fr (fun i => i = p1 ∨ sv1.ownBlock = some i) w1 w2) (hb : ∀ g, sv'.ownBlock = some g → sv1.ownBlock = some g ∨ w1.heap.size ≤ g) :
    ST w0 w2 wb db p0 p1 sv0 sv' h0 B0 (mkH h1 B1 s) (mkB h1 B1 s) L0 (mkL h1 B1 s L1) (n + 1) := by
  obtain ⟨q1, q2, q3, q4, q5⟩ := t.half1 g
  have nS : ∀ i, (i = p1 ∨ sv1.ownBlock = some i) → w0.heap.size ≤ i := fun i e => by
    rcases e with rfl | e
    · exact t.r1.lo
    · exact (row_lt t.r1.row e).1
  have hwb : ¬ (wb = p1 ∨ sv1.ownBlock = some wb) := fun e => by
    rcases e with e | e
    · exact t.ne.2.2.1 e
    · exact (t.s1 _ e).1 rfl
  have hdb : ¬ (db = p1 ∨ sv1.ownBlock = some db) := fun e => by
    rcases e with e | e
    · exact t.ne.2.2.2.2.1 e
    · exact (t.s1 _ e).2.1 rfl
  have hpy : ¬ (p0 = p1 ∨ sv1.ownBlock = some p0) := fun e => by
    rcases e with e | e
    · exact t.ne.2.2.2.2.2 e
    · exact (t.s1 _ e).2.2.1 rfl
  have hsy : ∀ k, sv0.ownBlock = some k → ¬ (k = p1 ∨ sv1.ownBlock = some k) := fun k hk e => by
    rcases e with e | e
    · exact (t.s0 k hk).2.2.2.1 e
    · exact (t.s0 k hk).2.2.2.2 e
  have hbig : ∀ g, w1.heap.size ≤ g → g ≠ wb ∧ g ≠ db ∧ g ≠ p0 ∧ g ≠ p1 ∧ sv0.ownBlock ≠ some g := fun g hg => by
    have e1 := ha.lt
    have e2 := q3.lt
    have e3 := q1.has.lt
    have e4 := q2.has.lt
    refine ⟨by omega, by omega, by omega, by omega, fun e => ?_⟩
    have := (row_lt q2.row e).2
    omega
  have hnew : ∀ g, sv'.ownBlock = some g → g ≠ wb ∧ g ≠ db ∧ g ≠ p0 ∧ g ≠ p1 ∧ sv0.ownBlock ≠ some g := fun g hg => by
    rcases hb g hg with e | e
    · exact t.s1 g e
    · exact hbig g e
  have hold : ∀ g, sv0.ownBlock = some g → g ≠ wb ∧ g ≠ db ∧ g ≠ p0 ∧ g ≠ p1 ∧ sv'.ownBlock ≠ some g := fun g hg => ⟨(t.s0 g hg).1, (t.s0 g hg).2.1, (t.s0 g hg).2.2.1, (t.s0 g hg).2.2.2.1, fun e => (hnew g e).2.2.2.2 hg⟩
  have hlen : (mkL h1 B1 s L1).length ≤ n + 1 := by
    have := t.n1
    unfold mkL
    split
    · simp; omega
    · omega
  exact ⟨ha.fr f hwb, q3.fr f hdb, q2.fr f hpy hsy, hr, t.v0, t.v1.markL s, t.hh0, mkH_lt t.hh1 hs, by have := t.n0; omega, hlen, t.wlo, t.dlo, t.ne, hold, hnew, (by
    have fz := f.then (Fr.refl (fun _ => False) w2) (fun i e => e.elim)
    exact ⟨fz.os.trans q5.os, fz.tape.trans q5.tape, fz.output.trans q5.output, Nat.le_trans q5.size fz.size, fun i hi _ => (fz.block i (by omega) (fun e => by have := nS i e; omega)).trans (q5.block i hi (by simp))⟩)⟩
/-- number 1 becomes a copy of number 0 -/
theorem ST.copy0 {w0 w : World} {wb db p0 p1 : Nat} {sv0 sv1 : Value} {h0 B0 h1 B1 : Nat} {L0 L1 : List Nat} {n : Nat} (t : ST w0 w wb db p0 p1 sv0 sv1 h0 B0 h1 B1 L0 L1 n) {w1 w2 : World} {v' : Value} (g1 : w.grownBy w1 (some wb)) (ha : Has w1 wb [uv h0, uv B0, uv h0, uv B0] 41) (hrow : w2.ownsRow w0.heap.size 24 1 v' L0.length (L0.map uv)) (g2 : w1.grownBy w2 none) (hv : ∀ g, v'.ownBlock = some g → w1.heap.size ≤ g) :
    ST w0 ((w2.alloc (.cells #[v', uv h0] 44)).setCell ⟨db, 1, none⟩ (pv w2.heap.size)) wb db p0 w2.heap.size sv0 v' h0 B0 h0 B0 L0 L0 n := by
  obtain ⟨q1, q2, q3, q4, q5⟩ := t.half0 g1
  have g3 : w1.grownBy (w2.alloc (.cells #[v', uv h0] 44)) none := g2.trans (World.grownBy_alloc _ _ _)
  have hs2 := g2.size
  have e1 := ha.lt
  have e2 := q3.lt
  have e3 := q1.has.lt
  have fs := Fr.of (gr_set (w2.alloc (.cells #[v', uv h0] 44)) db 1 (pv w2.heap.size))
  have hp := Has.new w2 [v', uv h0] 44
  have hvl : ∀ g, v'.ownBlock = some g → g < w2.heap.size := fun g hg => (row_lt hrow hg).2
  have hwb : ¬ (some db = some wb) := fun e => by cases e; exact t.ne.1 rfl
  have hnew : ∀ g, v'.ownBlock = some g → g ≠ wb ∧ g ≠ db ∧ g ≠ p0 ∧ g ≠ w2.heap.size ∧ sv0.ownBlock ≠ some g := fun g hg => by
    have a1 := hv g hg
    have a2 := hvl g hg
    refine ⟨by omega, by omega, by omega, by omega, fun e => ?_⟩
    have := (row_lt q1.row e).2
    omega
  have hold : ∀ g, sv0.ownBlock = some g → g ≠ wb ∧ g ≠ db ∧ g ≠ p0 ∧ g ≠ w2.heap.size ∧ v'.ownBlock ≠ some g := fun g hg => by
    have a1 := (row_lt q1.row hg).2
    have a2 := t.s0 g hg
    exact ⟨a2.1, a2.2.1, a2.2.2.1, by omega, fun e => (hnew g e).2.2.2.2 hg⟩
  have rx : RD w0 ((w2.alloc (.cells #[v', uv h0] 44)).setCell ⟨db, 1, none⟩ (pv w2.heap.size)) p0 sv0 L0 h0 := (q1.fr (Fr.ofNone (S := fun _ => False) g3) (fun e => e) (fun _ _ e => e)).fr fs (fun e => by cases e; exact t.ne.2.2.2.1 rfl) (fun k hk e => by cases e; exact (t.s0 _ hk).2.1 rfl)
  have ry : RD w0 ((w2.alloc (.cells #[v', uv h0] 44)).setCell ⟨db, 1, none⟩ (pv w2.heap.size)) w2.heap.size v' L0 h0 := ⟨hp.fr fs (fun e => by cases e; omega), own_fr (own_fr hrow (Fr.ofNone (S := fun _ => False) (World.grownBy_alloc w2 (.cells #[v', uv h0] 44) none)) (fun _ _ e => e)) fs (fun k hk e => by cases e; exact (hnew _ hk).2.1 rfl), by omega, fun e => by have := hvl _ e; omega, t.r0.lt⟩
  exact ⟨(ha.kept g3 (by simp)).fr fs hwb, (q3.kept g3 (by simp)).setCell 1 (pv w2.heap.size), rx, ry, t.v0, t.v0, t.hh0, t.hh0, t.n0, t.n0, t.wlo, t.dlo,
    ⟨t.ne.1, t.ne.2.1, by omega, t.ne.2.2.2.1, by omega, by omega⟩, hold, hnew, gr_new (q5.trans g3) (gr_set _ db 1 _) t.dlo⟩
/-- number 0 becomes a copy of number 1 -/
theorem ST.copy1 {w0 w : World} {wb db p0 p1 : Nat} {sv0 sv1 : Value} {h0 B0 h1 B1 : Nat} {L0 L1 : List Nat} {n : Nat} (t : ST w0 w wb db p0 p1 sv0 sv1 h0 B0 h1 B1 L0 L1 n) {w1 w2 : World} {v' : Value} (g1 : w.grownBy w1 (some wb)) (ha : Has w1 wb [uv h1, uv B1, uv h1, uv B1] 41) (hrow : w2.ownsRow w0.heap.size 24 1 v' L1.length (L1.map uv)) (g2 : w1.grownBy w2 none) (hv : ∀ g, v'.ownBlock = some g → w1.heap.size ≤ g) :
    ST w0 ((w2.alloc (.cells #[v', uv h1] 44)).setCell ⟨db, 0, none⟩ (pv w2.heap.size)) wb db w2.heap.size p1 v' sv1 h1 B1 h1 B1 L1 L1 n := by
  obtain ⟨q1, q2, q3, q4, q5⟩ := t.half1 g1
  have g3 : w1.grownBy (w2.alloc (.cells #[v', uv h1] 44)) none := g2.trans (World.grownBy_alloc _ _ _)
  have hs2 := g2.size
  have e1 := ha.lt
  have e2 := q3.lt
  have e3 := q1.has.lt
  have fs := Fr.of (gr_set (w2.alloc (.cells #[v', uv h1] 44)) db 0 (pv w2.heap.size))
  have hp := Has.new w2 [v', uv h1] 44
  have hvl : ∀ g, v'.ownBlock = some g → g < w2.heap.size := fun g hg => (row_lt hrow hg).2
  have hwb : ¬ (some db = some wb) := fun e => by cases e; exact t.ne.1 rfl
  have hnew : ∀ g, v'.ownBlock = some g → g ≠ wb ∧ g ≠ db ∧ g ≠ w2.heap.size ∧ g ≠ p1 ∧ sv1.ownBlock ≠ some g := fun g hg => by
    have a1 := hv g hg
    have a2 := hvl g hg
    refine ⟨by omega, by omega, by omega, by omega, fun e => ?_⟩
    have := (row_lt q1.row e).2
    omega
  have hold : ∀ g, sv1.ownBlock = some g → g ≠ wb ∧ g ≠ db ∧ g ≠ w2.heap.size ∧ g ≠ p1 ∧ v'.ownBlock ≠ some g := fun g hg => by
    have a1 := (row_lt q1.row hg).2
    have a2 := t.s1 g hg
    exact ⟨a2.1, a2.2.1, by omega, a2.2.2.2.1, fun e => (hnew g e).2.2.2.2 hg⟩
  have rx : RD w0 ((w2.alloc (.cells #[v', uv h1] 44)).setCell ⟨db, 0, none⟩ (pv w2.heap.size)) p1 sv1 L1 h1 := (q1.fr (Fr.ofNone (S := fun _ => False) g3) (fun e => e) (fun _ _ e => e)).fr fs (fun e => by cases e; exact t.ne.2.2.2.2.1 rfl) (fun k hk e => by cases e; exact (t.s1 _ hk).2.1 rfl)
  have ry : RD w0 ((w2.alloc (.cells #[v', uv h1] 44)).setCell ⟨db, 0, none⟩ (pv w2.heap.size)) w2.heap.size v' L1 h1 := ⟨hp.fr fs (fun e => by cases e; omega), own_fr (own_fr hrow (Fr.ofNone (S := fun _ => False) (World.grownBy_alloc w2 (.cells #[v', uv h1] 44) none)) (fun _ _ e => e)) fs (fun k hk e => by cases e; exact (hnew _ hk).2.1 rfl), by omega, fun e => by have := hvl _ e; omega, t.r1.lt⟩
  exact ⟨(ha.kept g3 (by simp)).fr fs hwb, (q3.kept g3 (by simp)).setCell 0 (pv w2.heap.size), ry, rx, t.v1, t.v1, t.hh1, t.hh1, t.n1, t.n1, t.wlo, t.dlo,
    ⟨t.ne.1, by omega, t.ne.2.2.1, by omega, t.ne.2.2.2.2.1, by omega⟩, hnew, hold, gr_new (q5.trans g3) (gr_set _ db 0 _) t.dlo⟩
end Go.Proofs.Ytollbodeafdhkaa
