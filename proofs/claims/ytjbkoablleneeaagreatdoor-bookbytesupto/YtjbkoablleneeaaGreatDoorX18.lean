import Derived.Test.YtjbkoablleneeaaGreatDoorX16
/- the reference's Read: what it takes -/
namespace Go.Proofs.YtjbkoablleneeaaGreatDoor.Pk
open Go Go.RowKit

/-- the reference's reader and the package's -/
def QR (S : List UInt8) (at_ : Nat) (bad : Bool) (st : RS) : Prop := at_ ≤ S.length ∧ if bad = true then st = ([], 50) else st = (S.drop at_, 0)
theorem qT {S : List UInt8} {at_ at2 n : Nat} {bad bad2 : Bool} {st st2 : RS} {x y : List UInt8} (h : QR S at_ bad st) (e : qTake S at_ bad n = (x, at2, bad2)) (m : Nat) (hm : bad = false → m = n) (r : rTake st m = (y, st2)) : QR S at2 bad2 st2 ∧ (bad2 = false → bad = false ∧ x = y) ∧ x.length ≤ n := by
  obtain ⟨h1, h2⟩ := h
  unfold qTake at e
  cases bad with
  | false =>
    have h2 : st = (S.drop at_, 0) := h2
    obtain rfl := hm rfl
    subst h2
    unfold rTake at r
    rw [if_neg (by omega)] at r
    by_cases q : at_ + m ≤ S.length
    · rw [if_pos q] at e
      rw [if_neg (by simp; omega)] at r
      obtain ⟨rfl, e2⟩ := Prod.mk.inj e
      obtain ⟨rfl, rfl⟩ := Prod.mk.inj e2
      obtain ⟨rfl, rfl⟩ := Prod.mk.inj r
      refine ⟨⟨q, ?_⟩, fun _ => ⟨rfl, by simp⟩, by simp; omega⟩
      show ((S.drop at_).drop (m : Int).toNat, (0 : Int)) = _
      rw [List.drop_drop, Int.toNat_natCast]
    · rw [if_neg q] at e
      rw [if_pos (by simp; omega)] at r
      obtain ⟨rfl, e2⟩ := Prod.mk.inj e
      obtain ⟨rfl, rfl⟩ := Prod.mk.inj e2
      obtain ⟨rfl, rfl⟩ := Prod.mk.inj r
      exact ⟨⟨h1, rfl⟩, fun q => (by cases q), by simp⟩
  | true =>
    have h2 : st = ([], 50) := h2
    subst h2
    have r2 : st2 = ([], 50) := by
      have this : (rTake ([], 50) (m : Int)).2 = st2 := congrArg Prod.snd r
      rw [← this]
      unfold rTake
      rw [if_neg (by omega)]
      split
      · rfl
      · simp
    subst r2
    by_cases q : at_ + n ≤ S.length
    · rw [if_pos q] at e
      obtain ⟨rfl, e2⟩ := Prod.mk.inj e
      obtain ⟨rfl, rfl⟩ := Prod.mk.inj e2
      exact ⟨⟨q, rfl⟩, fun q => (by cases q), by simp; omega⟩
    · rw [if_neg q] at e
      obtain ⟨rfl, e2⟩ := Prod.mk.inj e
      obtain ⟨rfl, rfl⟩ := Prod.mk.inj e2
      exact ⟨⟨h1, rfl⟩, fun q => (by cases q), by simp⟩
theorem num_take {st s2 : RS} {k v : Nat} {z : Int} (hz : z = k) (h1 : 1 ≤ k) (h8 : k ≤ 8) (h : rNum st z = (v, s2)) : ∃ y, rTake st k = (y, s2) ∧ v = val y := by
  rw [rNum_eq st z k hz h1 h8] at h
  obtain ⟨e1, e2⟩ := Prod.mk.inj h
  exact ⟨(rTake st k).1, Prod.ext rfl e2, e1.symm⟩
theorem qEnt_rel {S : List UInt8} {a0 a1 a2 a3 a4 a5 a6 a7 a8 a9 a10 a11 : Nat} {b1 b2 b3 b4 b5 b6 b7 b8 b9 b10 b11 : Bool} {st : RS} {x1 x2 x3 x4 x5 x6 x7 x8 x9 x10 x11 : List UInt8} (h : QR S a0 false st)
    (e1 : qTake S a0 false 1 = (x1, a1, b1)) (e2 : qTake S a1 b1 8 = (x2, a2, b2)) (e3 : qTake S a2 b2 8 = (x3, a3, b3)) (e4 : qTake S a3 b3 1 = (x4, a4, b4)) (e5 : qTake S a4 b4 1 = (x5, a5, b5)) (e6 : qTake S a5 b5 (val x5) = (x6, a6, b6)) (e7 : qTake S a6 b6 2 = (x7, a7, b7)) (e8 : qTake S a7 b7 (val x7) = (x8, a8, b8)) (e9 : qTake S a8 b8 8 = (x9, a9, b9)) (e10 : qTake S a9 b9 2 = (x10, a10, b10)) (e11 : qTake S a10 b10 (val x10) = (x11, a11, b11)) :
    QR S a11 b11 (rEnt st).2 ∧ (b11 = false → (rEnt st).1 = ⟨(val x1 : Nat), val x2, val x3, (val x4 : Nat), x6, x8, val x9, x11⟩) := by
  obtain ⟨a, s1, b, s2, c, s3, d, s4, n, s5, g, s6, f, s7, q, s8, j, s9, k, s10, h1, h2, h3, h4, h5, h6, h7, h8, h9, h10, h11⟩ := rEnt_split st
  obtain ⟨y1, r1, rfl⟩ := num_take (k := 1) rfl (by omega) (by omega) h1
  obtain ⟨y2, r2, rfl⟩ := num_take (k := 8) rfl (by omega) (by omega) h2
  obtain ⟨y3, r3, rfl⟩ := num_take (k := 8) rfl (by omega) (by omega) h3
  obtain ⟨y4, r4, rfl⟩ := num_take (k := 1) rfl (by omega) (by omega) h4
  unfold rText at h5
  rcases h5a : rNum s4 1 with ⟨v5, s5a⟩
  rw [h5a] at h5
  obtain ⟨y5, r5, rfl⟩ := num_take (k := 1) rfl (by omega) (by omega) h5a
  obtain ⟨y7, r7, rfl⟩ := num_take (k := 2) rfl (by omega) (by omega) h6
  obtain ⟨y9, r9, rfl⟩ := num_take (k := 8) rfl (by omega) (by omega) h8
  obtain ⟨y10, r10, rfl⟩ := num_take (k := 2) rfl (by omega) (by omega) h9
  obtain ⟨q1, i1, _⟩ := qT h e1 1 (fun _ => rfl) r1
  obtain ⟨q2, i2, _⟩ := qT q1 e2 8 (fun _ => rfl) r2
  obtain ⟨q3, i3, _⟩ := qT q2 e3 8 (fun _ => rfl) r3
  obtain ⟨q4, i4, _⟩ := qT q3 e4 1 (fun _ => rfl) r4
  obtain ⟨q5, i5, _⟩ := qT q4 e5 1 (fun _ => rfl) r5
  obtain ⟨q6, i6, _⟩ := qT q5 e6 (val y5) (fun z => by rw [(i5 z).2]) h5
  obtain ⟨q7, i7, _⟩ := qT q6 e7 2 (fun _ => rfl) r7
  obtain ⟨q8, i8, _⟩ := qT q7 e8 (val y7) (fun z => by rw [(i7 z).2]) h7
  obtain ⟨q9, i9, _⟩ := qT q8 e9 8 (fun _ => rfl) r9
  obtain ⟨q10, i10, _⟩ := qT q9 e10 2 (fun _ => rfl) r10
  obtain ⟨q11, i11, _⟩ := qT q10 e11 (val y10) (fun z => by rw [(i10 z).2]) h10
  rw [h11]
  refine ⟨q11, fun z => ?_⟩
  obtain ⟨z10, t11⟩ := i11 z
  obtain ⟨z9, t10⟩ := i10 z10
  obtain ⟨z8, t9⟩ := i9 z9
  obtain ⟨z7, t8⟩ := i8 z8
  obtain ⟨z6, t7⟩ := i7 z7
  obtain ⟨z5, t6⟩ := i6 z6
  obtain ⟨z4, t5⟩ := i5 z5
  obtain ⟨z3, t4⟩ := i4 z4
  obtain ⟨z2, t3⟩ := i3 z3
  obtain ⟨z1, t2⟩ := i2 z2
  obtain ⟨_, t1⟩ := i1 z1
  rw [t1, t2, t3, t4, t6, t8, t9, t11]
theorem qTake_len {S : List UInt8} {at_ at2 n : Nat} {bad bad2 : Bool} {x : List UInt8} (h : at_ ≤ S.length) (e : qTake S at_ bad n = (x, at2, bad2)) : at2 ≤ S.length ∧ x.length ≤ n := by
  unfold qTake at e
  split at e
  · rename_i q
    obtain ⟨rfl, e2⟩ := Prod.mk.inj e
    obtain ⟨rfl, rfl⟩ := Prod.mk.inj e2
    exact ⟨q, by simp; omega⟩
  · obtain ⟨rfl, e2⟩ := Prod.mk.inj e
    obtain ⟨rfl, rfl⟩ := Prod.mk.inj e2
    exact ⟨h, by simp⟩
/-- where a round of the reference's Read stands -/
structure Qt (w W : World) (rb : Nat) (S : List UInt8) (at_ : Nat) (bad : Bool) (eb : Nat) (cs : List Value) (v : Value) (L : List En) : Prop where
  r : RdA W rb S at_ bad
  x : Has W eb cs 35
  row : Rw W w.heap.size v L
  g : w.grownBy W none
  ne : eb ≠ rb
  n1 : v.ownBlock ≠ some eb
  lr : w.heap.size ≤ rb
  le : w.heap.size ≤ eb
theorem row_ne {W : World} {base : Nat} {v : Value} {L : List En} {rb : Nat} {cs : List Value} (h : Rw W base v L) (r : Has W rb cs 151) : v.ownBlock ≠ some rb := fun q => by
  obtain ⟨_, h2⟩ := h
  rcases h2 with ⟨e, _⟩ | ⟨g, cap, cur, rfl, hb, hheap, h3, h4, h5, h6⟩
  · rw [e] at q; cases q
  · have e : g = rb := Option.some.inj q
    subst e
    unfold Has at r
    rw [hheap] at r
    have := Option.some.inj r
    injection this with e1 e2
    cases e2
theorem Qt.take {w W W' : World} {rb : Nat} {S : List UInt8} {at_ at2 : Nat} {bad bad2 : Bool} {eb : Nat} {cs : List Value} {v : Value} {L : List En} (h : Qt w W rb S at_ bad eb cs v L) (r : RdA W' rb S at2 bad2) (g : W.grownBy W' (some rb)) : Qt w W' rb S at2 bad2 eb cs v L :=
  ⟨r, h.x.kept g (fun q => h.ne (Option.some.inj q)), h.row.fr (Fr.of g) (fun _ hk q => row_ne h.row h.r (hk.trans q.symm)), gr_new h.g g h.lr, h.ne, h.n1, h.lr, h.le⟩
theorem Qt.put {w W : World} {rb : Nat} {S : List UInt8} {at_ : Nat} {bad : Bool} {eb : Nat} {cs : List Value} {v : Value} {L : List En} (h : Qt w W rb S at_ bad eb cs v L) (i : Nat) (y : Value) : Qt w (W.setCell ⟨eb, i, none⟩ y) rb S at_ bad eb (cs.set i y) v L :=
  have g := gr_set W eb i y
  ⟨h.r.kept g (fun q => h.ne (Option.some.inj q).symm), h.x.setCell i y, h.row.fr (Fr.of g) (fun _ hk q => h.n1 (hk.trans q.symm)), gr_new h.g g h.le, h.ne, h.n1, h.lr, h.le⟩
/-- between the rounds -/
structure Qr (w W : World) (rb : Nat) (S : List UInt8) (at_ : Nat) (bad : Bool) (v : Value) (L : List En) : Prop where
  r : RdA W rb S at_ bad
  row : Rw W w.heap.size v L
  g : w.grownBy W none
  lr : w.heap.size ≤ rb
theorem Qr.box {w W : World} {rb : Nat} {S : List UInt8} {at_ : Nat} {bad : Bool} {v : Value} {L : List En} (h : Qr w W rb S at_ bad v L) (Z : Array Value) : Qt w (W.alloc (.cells Z 35)) rb S at_ bad W.heap.size Z.toList v L :=
  have g := World.grownBy_alloc W (.cells Z 35) none
  ⟨h.r.alloc _, Has.newA _ _ _, h.row.kept g, h.g.trans g, fun q => by have := Has.lt h.r; omega, fun q => by have := (h.row.own q).2; omega, h.lr, h.g.size⟩
theorem Qt.app {w W W' : World} {rb : Nat} {S : List UInt8} {at_ : Nat} {bad : Bool} {eb : Nat} {cs : List Value} {v v' : Value} {L L' : List En} (h : Qt w W rb S at_ bad eb cs v L) (hw : Rw W' w.heap.size v' L') (hg : W.grownBy W' v.ownBlock) : Qr w W' rb S at_ bad v' L' :=
  ⟨h.r.kept hg (fun q => row_ne h.row h.r q.symm), hw, fr_mine h.g (Fr.of hg) (fun _ q => (h.row.own q).1), h.lr⟩
def sln : Value → Nat
  | .slice _ n _ => n
  | _ => 0
end Go.Proofs.YtjbkoablleneeaaGreatDoor.Pk

