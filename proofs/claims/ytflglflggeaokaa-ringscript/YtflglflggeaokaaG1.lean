/- things that lie apart. -/
import Derived.Test.YtflglflggeaokaaR1
namespace Go.Proofs.Ytflglflggeaokaa
open Go Go.RowKit Go.Shelf

/-- a thing: its blocks, what is said of it; other blocks don't touch it -/
structure Ob where
  F : Nat → Prop
  P : World → Prop
  st : ∀ (S : Nat → Prop) (W W' : World), P W → Fr S W W' → (∀ i, F i → ¬ S i) → P W'
  lt : ∀ W, P W → ∀ i, F i → i < W.heap.size
/-- they hold, they lie apart, above lo -/
structure Sep (lo : Nat) (W : World) (l : List Ob) : Prop where
  p : ∀ o ∈ l, o.P W
  lo : ∀ o ∈ l, ∀ i, o.F i → lo ≤ i
  ap : l.Pairwise (fun a b => ∀ i, a.F i → ¬ b.F i)
theorem Sep.sub {lo : Nat} {W : World} {l l' : List Ob} (h : Sep lo W l) (hs : l'.Sublist l) : Sep lo W l' :=
  ⟨fun o ho => h.p o (hs.subset ho), fun o ho => h.lo o (hs.subset ho), h.ap.sublist hs⟩
theorem Sep.tail {lo : Nat} {W : World} {o : Ob} {l : List Ob} (h : Sep lo W (o :: l)) : Sep lo W l := h.sub (List.sublist_cons_self _ _)
theorem Sep.perm {lo : Nat} {W : World} {l l' : List Ob} (h : Sep lo W l) (hp : l.Perm l') : Sep lo W l' :=
  ⟨fun o ho => h.p o (hp.mem_iff.2 ho), fun o ho => h.lo o (hp.mem_iff.2 ho), (hp.pairwise_iff (fun {_ _} q i hi e => q i e hi)).1 h.ap⟩
theorem Sep.fr {lo : Nat} {W W' : World} {l : List Ob} {S : Nat → Prop} (h : Sep lo W l) (f : Fr S W W') (hs : ∀ o ∈ l, ∀ i, o.F i → ¬ S i) : Sep lo W' l :=
  ⟨fun o ho => o.st S W W' (h.p o ho) f (hs o ho), h.lo, h.ap⟩
theorem Sep.grown {lo : Nat} {W W' : World} {l : List Ob} (h : Sep lo W l) (hg : W.grownBy W' none) : Sep lo W' l :=
  h.fr (S := fun _ => False) (Fr.ofNone hg) (fun _ _ _ _ e => e)
theorem Sep.lt {lo : Nat} {W : World} {l : List Ob} (h : Sep lo W l) : ∀ o ∈ l, ∀ i, o.F i → i < W.heap.size := fun o ho => o.lt W (h.p o ho)
/-- one of them turned, within its blocks and new ones; a new thing came beside -/
theorem Sep.updAdd {lo : Nat} {W W' : World} {A B : List Ob} {o o' n : Ob} (h : Sep lo W (A ++ o :: B)) (hlo : lo ≤ W.heap.size) (f : Fr o.F W W') (hp : o'.P W') (hF : ∀ i, o'.F i → o.F i ∨ W.heap.size ≤ i) (hn : n.P W') (hnF : ∀ i, n.F i → W.heap.size ≤ i) (hno : ∀ i, n.F i → ¬ o'.F i) : Sep lo W' (n :: (A ++ o' :: B)) := by
  have hap := List.pairwise_append.1 h.ap
  have hap2 := List.pairwise_cons.1 hap.2.1
  have hAo : ∀ x ∈ A, ∀ i, x.F i → ¬ o.F i := fun x hx => hap.2.2 x hx o (by simp)
  have hBo : ∀ x ∈ B, ∀ i, x.F i → ¬ o.F i := fun x hx i hi e => hap2.1 x hx i e hi
  have hA : ∀ x ∈ A, x ∈ A ++ o :: B := fun x hx => by simp [hx]
  have hB : ∀ x ∈ B, x ∈ A ++ o :: B := fun x hx => by simp [hx]
  have key : ∀ x ∈ A ++ o :: B, (∀ i, x.F i → ¬ o.F i) → ∀ i, x.F i → ¬ o'.F i := fun x hx hq i hi e => by
    rcases hF i e with q | q
    · exact hq i hi q
    · have := h.lt x hx i hi; omega
  refine ⟨fun x hx => ?_, fun x hx i hi => ?_, ?_⟩
  · rcases List.mem_cons.1 hx with rfl | hx
    · exact hn
    rcases List.mem_append.1 hx with hx | hx
    · exact x.st _ _ _ (h.p x (hA x hx)) f (hAo x hx)
    rcases List.mem_cons.1 hx with rfl | hx
    · exact hp
    · exact x.st _ _ _ (h.p x (hB x hx)) f (hBo x hx)
  · rcases List.mem_cons.1 hx with rfl | hx
    · exact Nat.le_trans hlo (hnF i hi)
    rcases List.mem_append.1 hx with hx | hx
    · exact h.lo x (hA x hx) i hi
    rcases List.mem_cons.1 hx with rfl | hx
    · rcases hF i hi with q | q
      · exact h.lo o (by simp) i q
      · omega
    · exact h.lo x (hB x hx) i hi
  · refine List.pairwise_cons.2 ⟨fun x hx i hi e => ?_, List.pairwise_append.2 ⟨hap.1, List.pairwise_cons.2 ⟨fun x hx i hi e => ?_, hap2.2⟩, fun x hx y hy i hi e => ?_⟩⟩
    · have q := hnF i hi
      rcases List.mem_append.1 hx with hx | hx
      · have := h.lt x (hA x hx) i e; omega
      rcases List.mem_cons.1 hx with rfl | hx
      · exact hno i hi e
      · have := h.lt x (hB x hx) i e; omega
    · exact key x (hB x hx) (hBo x hx) i e hi
    · rcases List.mem_cons.1 hy with rfl | hy
      · exact key x (hA x hx) (hAo x hx) i hi e
      · exact hap.2.2 x hx y (by simp [hy]) i hi e
def Ob.none : Ob := ⟨fun _ => False, fun _ => True, fun _ _ _ _ _ _ => trivial, fun _ _ _ e => e.elim⟩
theorem Sep.upd {lo : Nat} {W W' : World} {A B : List Ob} {o o' : Ob} (h : Sep lo W (A ++ o :: B)) (hlo : lo ≤ W.heap.size) (f : Fr o.F W W') (hp : o'.P W') (hF : ∀ i, o'.F i → o.F i ∨ W.heap.size ≤ i) : Sep lo W' (A ++ o' :: B) :=
  (h.updAdd (n := Ob.none) hlo f hp hF trivial (fun _ e => e.elim) (fun _ e => e.elim)).tail
theorem Sep.add {lo : Nat} {W W' : World} {l : List Ob} {n : Ob} (h : Sep lo W l) (hlo : lo ≤ W.heap.size) (hg : W.grownBy W' .none) (hn : n.P W') (hnF : ∀ i, n.F i → W.heap.size ≤ i) : Sep lo W' (n :: l) := by
  have h' := h.grown hg
  refine ⟨fun x hx => ?_, fun x hx i hi => ?_, List.pairwise_cons.2 ⟨fun x hx i hi e => ?_, h.ap⟩⟩
  · rcases List.mem_cons.1 hx with rfl | hx
    · exact hn
    · exact h'.p x hx
  · rcases List.mem_cons.1 hx with rfl | hx
    · exact Nat.le_trans hlo (hnF i hi)
    · exact h'.lo x hx i hi
  · have := hnF i hi
    have := h.lt x hx i e
    omega
def Ob.both (a b : Ob) : Ob := ⟨fun i => a.F i ∨ b.F i, fun W => a.P W ∧ b.P W ∧ ∀ i, a.F i → ¬ b.F i, fun S W W' h f hs => ⟨a.st S W W' h.1 f (fun i hi => hs i (.inl hi)), b.st S W W' h.2.1 f (fun i hi => hs i (.inr hi)), h.2.2⟩, fun W h i hi => hi.elim (a.lt W h.1 i) (b.lt W h.2.1 i)⟩
theorem Sep.merge {lo : Nat} {W : World} {a b : Ob} {l : List Ob} (h : Sep lo W (a :: b :: l)) : Sep lo W (a.both b :: l) := by
  have h1 := List.pairwise_cons.1 h.ap
  have h2 := List.pairwise_cons.1 h1.2
  refine ⟨fun x hx => ?_, fun x hx i hi => ?_, List.pairwise_cons.2 ⟨fun x hx i hi e => ?_, h2.2⟩⟩
  · rcases List.mem_cons.1 hx with rfl | hx
    · exact ⟨h.p a (by simp), h.p b (by simp), h1.1 b (by simp)⟩
    · exact h.p x (by simp [hx])
  · rcases List.mem_cons.1 hx with rfl | hx
    · exact hi.elim (h.lo a (by simp) i) (h.lo b (by simp) i)
    · exact h.lo x (by simp [hx]) i hi
  · rcases hi with hi | hi
    · exact h1.1 x (by simp [hx]) i hi e
    · exact h2.1 x hx i hi e
theorem Sep.nil (lo : Nat) (W : World) : Sep lo W [] := ⟨fun _ h => (by cases h), fun _ h => (by cases h), List.Pairwise.nil⟩

/-- the play -/
def playO (pb : Nat) (cs : List Value) : Ob := ⟨fun i => i = pb, fun W => Has W pb cs 57, fun _ _ _ h f hs => h.fr f (hs pb rfl), fun _ h i e => by rw [e]; exact Has.lt (t := 57) h⟩
/-- a ring and the reference's -/
def pairO (rb : Nat) (v : Value) (db : Nat) (a : Option Addr) (sz : Nat) (QR QD : List Int) : Ob :=
  ⟨fun i => RF rb v i ∨ DF db a i, fun W => RingAt W rb v sz QR ∧ (∃ c, DAt W db a c sz QD) ∧ ∀ i, RF rb v i → ¬ DF db a i,
   fun _ _ _ h f hs => ⟨h.1.fr f (fun i hi => hs i (.inl hi)), h.2.1.imp (fun _ d => d.fr f (fun i hi => hs i (.inr hi))), h.2.2⟩,
   fun _ h i hi => hi.elim (h.1.lt i) (fun q => by obtain ⟨_, d⟩ := h.2.1; exact d.lt i q)⟩
/-- blocks whose cells are known -/
def cellsO (X : List (Nat × List Value × TypeId)) : Ob :=
  ⟨fun i => ∃ p ∈ X, p.1 = i, fun W => ∀ p ∈ X, Has W p.1 p.2.1 p.2.2, fun _ _ _ h f hs p hp => (h p hp).fr f (hs _ ⟨p, hp, rfl⟩), fun _ h i ⟨p, hp, e⟩ => by rw [← e]; exact (h p hp).lt⟩

theorem RG.start {W : World} {rb : Nat} {v : Value} {db : Nat} {a : Option Addr} {sz : Nat} {QR QD : List Int} (h : (pairO rb v db a sz QR QD).P W) : RG W W rb v db a sz QR QD [] [] := by
  obtain ⟨h1, ⟨c, h2⟩, h3⟩ := h
  exact ⟨⟨v, a, c, h1, h2, fun _ h => .inl h, fun _ h => .inl h, h3, fun p hp => (by cases hp)⟩, fun p hp => (by cases hp), fun p hp => (by cases hp), fun p hp => (by cases hp), Fr.refl _ _⟩
theorem Sep.rg {lo : Nat} {W W' : World} {A B : List Ob} {rb : Nat} {v : Value} {db : Nat} {a : Option Addr} {sz : Nat} {QR QD QR' QD' : List Int} {X : List (Nat × List Value × TypeId)} (h : Sep lo W (A ++ pairO rb v db a sz QR QD :: B)) (hlo : lo ≤ W.heap.size) (g : RG W W' rb v db a sz QR' QD' X []) :
    ∃ v' a', Sep lo W' (cellsO X :: (A ++ pairO rb v' db a' sz QR' QD' :: B)) := by
  obtain ⟨v', a', c, r, d, h1, h2, h3, h4⟩ := g.e
  refine ⟨v', a', h.updAdd hlo g.f ⟨r, ⟨c, d⟩, h3⟩ (fun i hi => ?_) g.x (fun i hi => ?_) (fun i hi => ?_)⟩
  · rcases hi with hi | hi
    · rcases h1 i hi with q | q
      · exact .inl (.inl q)
      · exact .inr q
    · rcases h2 i hi with q | q
      · exact .inl (.inr q)
      · exact .inr q
  · obtain ⟨p, hp, e⟩ := hi
    rw [← e]; exact g.lo p hp
  · obtain ⟨p, hp, e⟩ := hi
    intro q
    rw [← e] at q
    exact q.elim (h4 p hp).1 (h4 p hp).2
end Go.Proofs.Ytflglflggeaokaa
