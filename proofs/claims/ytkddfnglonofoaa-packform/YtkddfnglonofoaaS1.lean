/- things that lie apart; Writers and Readers among them. -/
import Derived.Test.YtkddfnglonofoaaB3
namespace Go.Proofs.Ytkddfnglonofoaa
open Go Go.RowKit

/-- a thing: its blocks, what is said of it; other blocks don't touch it -/
structure Ob where
  F : Nat → Prop
  P : World → Prop
  st : ∀ (S : Nat → Prop) (W W' : World), P W → Fr S W W' → (∀ i, F i → ¬ S i) → P W'
  lt : ∀ W, P W → ∀ i, F i → i < W.heap.size
/-- they hold, they lie apart, above lo -/
structure Sep (lo : Nat) (W : World) (l : List Ob) : Prop where
  p : ∀ o ∈ l, o.P W
  lo : ∀ o ∈ l, ∀ i, o.F i → lo ≤ i
  ap : l.Pairwise (fun a b => ∀ i, a.F i → ¬ b.F i)
theorem Sep.sub {lo : Nat} {W : World} {l l' : List Ob} (h : Sep lo W l) (hs : l'.Sublist l) : Sep lo W l' :=
  ⟨fun o ho => h.p o (hs.subset ho), fun o ho => h.lo o (hs.subset ho), h.ap.sublist hs⟩
theorem Sep.tail {lo : Nat} {W : World} {o : Ob} {l : List Ob} (h : Sep lo W (o :: l)) : Sep lo W l := h.sub (List.sublist_cons_self _ _)
theorem Sep.perm {lo : Nat} {W : World} {l l' : List Ob} (h : Sep lo W l) (hp : l.Perm l') : Sep lo W l' :=
  ⟨fun o ho => h.p o (hp.mem_iff.2 ho), fun o ho => h.lo o (hp.mem_iff.2 ho), (hp.pairwise_iff (fun {_ _} q i hi e => q i e hi)).1 h.ap⟩
theorem Sep.fr {lo : Nat} {W W' : World} {l : List Ob} {S : Nat → Prop} (h : Sep lo W l) (f : Fr S W W') (hs : ∀ o ∈ l, ∀ i, o.F i → ¬ S i) : Sep lo W' l :=
  ⟨fun o ho => o.st S W W' (h.p o ho) f (hs o ho), h.lo, h.ap⟩
theorem Sep.grown {lo : Nat} {W W' : World} {l : List Ob} (h : Sep lo W l) (hg : W.grownBy W' none) : Sep lo W' l :=
  h.fr (S := fun _ => False) (Fr.ofNone hg) (fun _ _ _ _ e => e)
theorem Sep.lt {lo : Nat} {W : World} {l : List Ob} (h : Sep lo W l) : ∀ o ∈ l, ∀ i, o.F i → i < W.heap.size := fun o ho => o.lt W (h.p o ho)
/-- one of them turned, within its blocks and new ones; a new thing came beside -/
theorem Sep.updAdd {lo : Nat} {W W' : World} {A B : List Ob} {o o' n : Ob} (h : Sep lo W (A ++ o :: B)) (hlo : lo ≤ W.heap.size) (f : Fr o.F W W') (hp : o'.P W') (hF : ∀ i, o'.F i → o.F i ∨ W.heap.size ≤ i) (hn : n.P W') (hnF : ∀ i, n.F i → W.heap.size ≤ i) (hno : ∀ i, n.F i → ¬ o'.F i) : Sep lo W' (n :: (A ++ o' :: B)) := by
  have hap := List.pairwise_append.1 h.ap
  have hap2 := List.pairwise_cons.1 hap.2.1
  have hAo : ∀ x ∈ A, ∀ i, x.F i → ¬ o.F i := fun x hx => hap.2.2 x hx o (by simp)
  have hBo : ∀ x ∈ B, ∀ i, x.F i → ¬ o.F i := fun x hx i hi e => hap2.1 x hx i e hi
  have hA : ∀ x ∈ A, x ∈ A ++ o :: B := fun x hx => by simp [hx]
  have hB : ∀ x ∈ B, x ∈ A ++ o :: B := fun x hx => by simp [hx]
  have key : ∀ x ∈ A ++ o :: B, (∀ i, x.F i → ¬ o.F i) → ∀ i, x.F i → ¬ o'.F i := fun x hx hq i hi e => by
    rcases hF i e with q | q
    · exact hq i hi q
    · have := h.lt x hx i hi; omega
  refine ⟨fun x hx => ?_, fun x hx i hi => ?_, ?_⟩
  · rcases List.mem_cons.1 hx with rfl | hx
    · exact hn
    rcases List.mem_append.1 hx with hx | hx
    · exact x.st _ _ _ (h.p x (hA x hx)) f (hAo x hx)
    rcases List.mem_cons.1 hx with rfl | hx
    · exact hp
    · exact x.st _ _ _ (h.p x (hB x hx)) f (hBo x hx)
  · rcases List.mem_cons.1 hx with rfl | hx
    · exact Nat.le_trans hlo (hnF i hi)
    rcases List.mem_append.1 hx with hx | hx
    · exact h.lo x (hA x hx) i hi
    rcases List.mem_cons.1 hx with rfl | hx
    · rcases hF i hi with q | q
      · exact h.lo o (by simp) i q
      · omega
    · exact h.lo x (hB x hx) i hi
  · refine List.pairwise_cons.2 ⟨fun x hx i hi e => ?_, List.pairwise_append.2 ⟨hap.1, List.pairwise_cons.2 ⟨fun x hx i hi e => ?_, hap2.2⟩, fun x hx y hy i hi e => ?_⟩⟩
    · have q := hnF i hi
      rcases List.mem_append.1 hx with hx | hx
      · have := h.lt x (hA x hx) i e; omega
      rcases List.mem_cons.1 hx with rfl | hx
      · exact hno i hi e
      · have := h.lt x (hB x hx) i e; omega
    · exact key x (hB x hx) (hBo x hx) i e hi
    · rcases List.mem_cons.1 hy with rfl | hy
      · exact key x (hA x hx) (hAo x hx) i hi e
      · exact hap.2.2 x hx y (by simp [hy]) i hi e
def Ob.none : Ob := ⟨fun _ => False, fun _ => True, fun _ _ _ _ _ _ => trivial, fun _ _ _ e => e.elim⟩
theorem Sep.upd {lo : Nat} {W W' : World} {A B : List Ob} {o o' : Ob} (h : Sep lo W (A ++ o :: B)) (hlo : lo ≤ W.heap.size) (f : Fr o.F W W') (hp : o'.P W') (hF : ∀ i, o'.F i → o.F i ∨ W.heap.size ≤ i) : Sep lo W' (A ++ o' :: B) :=
  (h.updAdd (n := Ob.none) hlo f hp hF trivial (fun _ e => e.elim) (fun _ e => e.elim)).tail
theorem Sep.add {lo : Nat} {W W' : World} {l : List Ob} {n : Ob} (h : Sep lo W l) (hlo : lo ≤ W.heap.size) (hg : W.grownBy W' .none) (hn : n.P W') (hnF : ∀ i, n.F i → W.heap.size ≤ i) : Sep lo W' (n :: l) := by
  have h' := h.grown hg
  refine ⟨fun x hx => ?_, fun x hx i hi => ?_, List.pairwise_cons.2 ⟨fun x hx i hi e => ?_, h.ap⟩⟩
  · rcases List.mem_cons.1 hx with rfl | hx
    · exact hn
    · exact h'.p x hx
  · rcases List.mem_cons.1 hx with rfl | hx
    · exact Nat.le_trans hlo (hnF i hi)
    · exact h'.lo x hx i hi
  · have := hnF i hi
    have := h.lt x hx i e
    omega
def Ob.both (a b : Ob) : Ob := ⟨fun i => a.F i ∨ b.F i, fun W => a.P W ∧ b.P W ∧ ∀ i, a.F i → ¬ b.F i, fun S W W' h f hs => ⟨a.st S W W' h.1 f (fun i hi => hs i (.inl hi)), b.st S W W' h.2.1 f (fun i hi => hs i (.inr hi)), h.2.2⟩, fun W h i hi => hi.elim (a.lt W h.1 i) (b.lt W h.2.1 i)⟩
theorem Sep.merge {lo : Nat} {W : World} {a b : Ob} {l : List Ob} (h : Sep lo W (a :: b :: l)) : Sep lo W (a.both b :: l) := by
  have h1 := List.pairwise_cons.1 h.ap
  have h2 := List.pairwise_cons.1 h1.2
  refine ⟨fun x hx => ?_, fun x hx i hi => ?_, List.pairwise_cons.2 ⟨fun x hx i hi e => ?_, h2.2⟩⟩
  · rcases List.mem_cons.1 hx with rfl | hx
    · exact ⟨h.p a (by simp), h.p b (by simp), h1.1 b (by simp)⟩
    · exact h.p x (by simp [hx])
  · rcases List.mem_cons.1 hx with rfl | hx
    · exact hi.elim (h.lo a (by simp) i) (h.lo b (by simp) i)
    · exact h.lo x (by simp [hx]) i hi
  · rcases hi with hi | hi
    · exact h1.1 x (by simp [hx]) i hi e
    · exact h2.1 x hx i hi e
theorem Sep.nil (lo : Nat) (W : World) : Sep lo W [] := ⟨fun _ h => (by cases h), fun _ h => (by cases h), List.Pairwise.nil⟩


theorem fr_mine {S : Nat → Prop} {w w1 w2 : World} (h : w.grownBy w1 none) (f : Fr S w1 w2) (hs : ∀ i, S i → w.heap.size ≤ i) : w.grownBy w2 none :=
  ((Fr.ofNone (S := S) h).trans f).none hs
/-- a Writer -/
def wO (wb : Nat) (v : Value) (st : WS) : Ob := ⟨WF wb v, fun W => WAt W wb v st, fun _ _ _ h f hs => h.fr f hs, fun _ h => h.lt⟩
/-- a Reader -/
def rO (rb B : Nat) (st : RS) : Ob := ⟨fun i => i = rb ∨ i = B, fun W => RAt W rb B st, fun _ _ _ h f hs => h.fr f (hs _ (.inl rfl)) (hs _ (.inr rfl)), fun _ h i hi => by
  rcases hi with rfl | rfl
  · obtain ⟨⟨a, c, q, _⟩, _⟩ := h; exact q.lt
  · exact h.lt⟩
theorem Sep.wdid {lo : Nat} {W W' : World} {A X : List Ob} {wb : Nat} {v v' : Value} {st st' : WS} (h : Sep lo W (A ++ wO wb v st :: X)) (hlo : lo ≤ W.heap.size) (d : WDid W W' wb v st' v') : Sep lo W' (A ++ wO wb v' st' :: X) :=
  h.upd hlo d.f d.a (fun i hi => by
    rcases hi with e | e
    · exact .inl (.inl e)
    · exact (d.n i e).imp_left .inr)
theorem Sep.rdid {lo : Nat} {W W' : World} {A X : List Ob} {rb B : Nat} {st st' : RS} (h : Sep lo W (A ++ rO rb B st :: X)) (hlo : lo ≤ W.heap.size) (d : RDid W W' rb B st') : Sep lo W' (A ++ rO rb B st' :: X) :=
  h.upd hlo (d.f.mono (fun _ e => .inl (.inl e))) d.a (fun _ hi => .inl hi)
/-- things of the call's own: they lie apart, and nothing elder has turned -/
structure Mine (w W : World) (l : List Ob) : Prop where
  g : w.grownBy W none
  s : Sep w.heap.size W l
theorem Mine.start (w : World) : Mine w w [] := ⟨World.grownBy.refl _ _, Sep.nil _ _⟩
theorem Mine.grown {w W W' : World} {l : List Ob} (h : Mine w W l) (hg : W.grownBy W' none) : Mine w W' l := ⟨h.g.trans hg, h.s.grown hg⟩
theorem Mine.perm {w W : World} {l l' : List Ob} (h : Mine w W l) (hp : l.Perm l') : Mine w W l' := ⟨h.g, h.s.perm hp⟩
theorem Mine.sub {w W : World} {l l' : List Ob} (h : Mine w W l) (hp : l'.Sublist l) : Mine w W l' := ⟨h.g, h.s.sub hp⟩
theorem Mine.newW {w W W' : World} {l : List Ob} {wb : Nat} (h : Mine w W l) (a : WAt W' wb (.slice none 0 0) (some [])) (hg : W.grownBy W' none) (hb : W.heap.size ≤ wb) : Mine w W' (wO wb (.slice none 0 0) (some []) :: l) :=
  ⟨h.g.trans hg, h.s.add h.g.size hg a (fun i hi => by
    rcases hi with e | e
    · omega
    · cases e)⟩
theorem Mine.newR {w W W' : World} {l : List Ob} {rb B : Nat} {st : RS} (h : Mine w W l) (a : RAt W' rb B st) (hg : W.grownBy W' none) (hb : W.heap.size ≤ rb) (hB : W.heap.size ≤ B) : Mine w W' (rO rb B st :: l) :=
  ⟨h.g.trans hg, h.s.add h.g.size hg a (fun i hi => by
    rcases hi with e | e <;> omega)⟩
theorem Mine.wdid {w W W' : World} {A X : List Ob} {wb : Nat} {v v' : Value} {st st' : WS} (h : Mine w W (A ++ wO wb v st :: X)) (d : WDid W W' wb v st' v') : Mine w W' (A ++ wO wb v' st' :: X) :=
  ⟨fr_mine h.g d.f (fun i hi => h.s.lo (wO wb v st) (by simp) i hi), h.s.wdid h.g.size d⟩
theorem Mine.rdid {w W W' : World} {A X : List Ob} {rb B : Nat} {st st' : RS} (h : Mine w W (A ++ rO rb B st :: X)) (d : RDid W W' rb B st') : Mine w W' (A ++ rO rb B st' :: X) :=
  ⟨fr_mine h.g d.f (fun i hi => h.s.lo (rO rb B st) (by simp) i (.inl hi)), h.s.rdid h.g.size d⟩
theorem Mine.w {w W : World} {A X : List Ob} {wb : Nat} {v : Value} {st : WS} (h : Mine w W (A ++ wO wb v st :: X)) : WAt W wb v st := h.s.p (wO wb v st) (by simp)
theorem Mine.r {w W : World} {A X : List Ob} {rb B : Nat} {st : RS} (h : Mine w W (A ++ rO rb B st :: X)) : RAt W rb B st := h.s.p (rO rb B st) (by simp)
end Go.Proofs.Ytkddfnglonofoaa
