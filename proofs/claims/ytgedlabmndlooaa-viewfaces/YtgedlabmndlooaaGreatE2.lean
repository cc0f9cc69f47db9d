/- a range over a function, over things that lie apart -/
import Derived.Test.YtgedlabmndlooaaGreatR4
import Derived.RangeFuncNested
import Derived.RangeFuncCalls
import Derived.RangeFuncLeaves
namespace Go.Proofs.YtgedlabmndlooaaGreat
open Go Go.RowKit Go.Maps

/-- a block that holds this -/
def objA (b : Nat) (o : Obj) : As :=
  ⟨fun W F => W.heap[b]? = some o ∧ F = fun i => i = b,
   fun S W W' F h f hs => ⟨by rw [f.block b (Array.getElem?_eq_some_iff.1 h.1).1 (hs b (by rw [h.2]))]; exact h.1, h.2⟩,
   fun W F h i hi => by rw [h.2] at hi; have hi : i = b := hi; rw [hi]; exact (Array.getElem?_eq_some_iff.1 h.1).1⟩
theorem Sep.newObj {w0 W : World} {l : List As} (h : Sep w0 W l) (o : Obj) : Sep w0 (W.alloc o) (objA W.heap.size o :: l) :=
  h.new (World.grownBy_alloc _ _ _) (Loc.one (a := objA _ _) _ ⟨World.alloc_heap_new W o, rfl⟩ (fun i hi => .inr (by rw [hi]; exact Nat.le_refl _)))
theorem Sep.objGet {w0 W : World} {l : List As} {b : Nat} {o : Obj} (h : Sep w0 W l) (hm : objA b o ∈ l) : W.heap[b]? = some o := by
  obtain ⟨F, q, _⟩ := h.get hm
  exact q
theorem Sep.objPut {w0 W : World} {l : List As} {b : Nat} {o : Obj} (h : Sep w0 W (objA b o :: l)) (o' : Obj) : Sep w0 (W.putObj b o') (objA b o' :: l) := by
  obtain ⟨F, ⟨h1, rfl⟩, _, hu⟩ := h.use
  exact hu _ [_] (Fr.ofSome (grownBy_putObj' W b o') rfl) (Loc.one (a := objA _ _) _ ⟨World.putObj_heap_same (Array.getElem?_eq_some_iff.1 h1).1, rfl⟩ (fun i hi => .inl hi))
section
variable {F : Fence} {n : Nat} {P : Program}
/-- what an iterator does, whatever else there is: it hands out what S says, or what Sp says if it is told to stop -/
def SeqA {α : Type} (F : Fence) (n : Nat) (P : Program) (gf : Nat) (lb : Array Value) (encs : α → Array Value) (w0 : World) (K : List As) (S Sp : List α → Prop) : Prop :=
  ∀ (l : Nat) (J Jx : List α → As) (W : World),
    (∀ pre x W1 KK, (∀ b ∈ K, b ∈ KK) → Sep w0 W1 (J pre :: KK) → YieldAt F (n - 1) P l (encs x) W1 fun e W' =>
      (e = .returned (.bool true) ∧ Sep w0 W' (J (pre ++ [x]) :: KK)) ∨ (e = .returned (.bool false) ∧ Sep w0 W' (Jx (pre ++ [x]) :: KK))) →
    Sep w0 W (J [] :: K) →
    CallsIn F n P gf (#[.func (.yield l) #[] #[]] ++ lb) W fun e W' => (∃ v, e = .returned v) ∧ ((∃ xs, S xs ∧ Sep w0 W' (J xs :: K)) ∨ (∃ pre, Sp pre ∧ Sep w0 W' (Jx pre :: K)))
/-- how a round's body may be left -/
def sepPost {α : Type} (w0 : World) (KK : List As) (I : List α → As) (Ix : Code → List α → As) (xs : List α) : Exit → Act → World → Prop
  | .normal, _, W' => Sep w0 W' (I xs :: KK)
  | .ret, _, W' => Sep w0 W' (Ix .ret xs :: KK)
  | .exit id, _, W' => Sep w0 W' (Ix (.exit id) xs :: KK)
  | .goto t, _, W' => Sep w0 W' (Ix (.goto t) xs :: KK)
  | .panic _, _, _ => False
  | .outgrown, _, _ => False
theorem range_sep {α : Type} {g : Operand} {ps : Array Tmp} {assign body : Code} {Q : Exit → Act → World → Prop} {a : Act} {w : World}
    (hro : F.round = none) (h1 : 1 ≤ n) {gf : Nat} {lb : Array Value} (hg : a.eval g = .func (.func gf) #[] lb) (hFg : F.fn gf) (eg : ∀ args w, (callFunc gf args).run P w = .ok (.enter gf args) w)
    {encs : α → Array Value} {w0 : World} {K : List As} {S Sp : List α → Prop} (hseq : SeqA F (n - 1) P gf lb encs w0 K S Sp) (hps : ∀ x, (encs x).size = ps.size)
    (I : List α → As) (Ix : Code → List α → As) (h0 : Sep w0 w (I [] :: K)) (Ax : List α → α → Act → As)
    (hassign : ∀ (l : Nat) (pre : List α) (x : α) (W : World) (KK : List As) (R : Act → World → Prop), (∀ b ∈ K, b ∈ KK) → Sep w0 W (I pre :: KK) → (∀ a' W', Sep w0 W' (Ax pre x a' :: KK) → R a' W') →
      assign.wpIn (F.inRound l) (n - 1 - 1) P (Exit.then R (fun _ _ _ => False)) { tmps := (ps.zip (encs x)).foldl (fun t (p, v) => t.setIfInBounds p v) a.tmps, defers := [] } W)
    (hbody : ∀ (l : Nat) (pre : List α) (x : α) (a' : Act) (W : World) (KK : List As), (∀ b ∈ K, b ∈ KK) → Sep w0 W (Ax pre x a' :: KK) → body.wpIn (F.inRound l) (n - 1 - 1) P (sepPost w0 KK I Ix (pre ++ [x])) a' W)
    (hdone : ∀ (D : Nat) (xs : List α) (W : World), S xs → Sep w0 W (objA D (.deferred (some [])) :: I xs :: K) → Q .normal { a with defers := { target := .collected D, args := #[] } :: a.defers } W)
    (hstop : ∀ (D : Nat) (c : Code) (pre : List α) (W : World), Sp pre → Sep w0 W (objA D (.deferred (some [])) :: Ix c pre :: K) → c.wpIn F n P Q { a with defers := { target := .collected D, args := #[] } :: a.defers } W) :
    (Code.rangeFunc g ps assign body).wpIn F n P Q a w := by
  refine wpIn_rangeFunc fun fn hfn => ?_
  rw [hro]
  obtain ⟨D, hD⟩ : ∃ D, w.heap.size = D := ⟨_, rfl⟩
  obtain ⟨mk, hmk⟩ : ∃ mk : LoopState → Option Code → Loop, mk = fun st pe => { state := st, pending := pe, fn := fn, tmps := a.tmps, params := ps, assign := assign, body := body, defers := D } := ⟨_, rfl⟩
  have hs2 : (w.alloc (.deferred (some []))).heap.size = D + 1 := by rw [World.size_alloc, hD]
  have S2 := (h0.newObj (.deferred (some []))).newObj (.loop (mk .ready none))
  rw [hs2, hD] at S2
  obtain ⟨W1, hW1⟩ : ∃ W1, (w.alloc (.deferred (some []))).alloc (.loop (mk .ready none)) = W1 := ⟨_, rfl⟩
  rw [hW1] at S2
  refine ⟨D + 1, [{ target := .collected D, args := #[] }], W1, { target := .fn (.func gf) lb, args := #[.func (.yield (D + 1)) #[] #[]] }, W1, gf, #[.func (.yield (D + 1)) #[] #[]] ++ lb, W1, ?_, ?_, ?_, ?_, fun _ => h1, ?_⟩
  · have q := run_enterLoop_outer (P := P) (w := w) fn a.tmps ps assign body
    rw [hD] at q
    rw [q, ← hW1, hmk]
  · simp only [resolve, hg]
    simp [go_sem]
  · intro f' hf'
    simp [Target.leads] at hf'
    subst hf'
    exact hFg
  · simp [invoke, go_sem, eg]
  · refine (hseq (D + 1) (fun pre => exA (fun _ : Unit => [objA (D + 1) (.loop (mk .ready none)), objA D (.deferred (some [])), I pre])) (fun pre => exA (fun c : Code => [objA (D + 1) (.loop (mk .done (some c))), objA D (.deferred (some [])), Ix c pre])) _ ?_ (Sep.cls _ () S2)).mono ?_
    · intro pre x W KK hKK hS
      obtain ⟨_, hS⟩ := hS.opn
      have hl := hS.objGet k0m
      have hy := run_yield (P := P) (args := encs x) hl (by rw [hmk]; exact hps x)
      rw [hmk] at hy
      refine ⟨fn, _, assign, body, hy, roundIn_of_wpIn hfn ?_⟩
      refine hassign (D + 1) pre x W (objA (D + 1) (.loop (mk .ready none)) :: objA D (.deferred (some [])) :: KK) _ (fun b hb => List.mem_cons_of_mem _ (List.mem_cons_of_mem _ (hKK b hb))) (fr1 [_, _] hS) fun a' W' hA => ?_
      refine ⟨_, run_beginRound (hA.objGet k1m) (by rw [hmk]), ?_⟩
      have hB := (hA.swap.objPut (.loop { mk .ready none with state := .busy })).swap
      refine wpIn_mono (hbody (D + 1) pre x a' _ _ (fun b hb => List.mem_cons_of_mem _ (List.mem_cons_of_mem _ (hKK b hb))) hB) ?_
      have fin : ∀ (jump : Option Code) (A : As) (W3 : World), Sep w0 W3 (A :: objA (D + 1) (.loop { mk .ready none with state := .busy }) :: objA D (.deferred (some [])) :: KK) →
          ∃ W4, (Instr.endRound (D + 1) jump).run P W3 = .ok (.bool jump.isNone) W4 ∧ Sep w0 W4 ([objA (D + 1) (.loop (mk (if jump.isNone then .ready else .done) jump)), objA D (.deferred (some [])), A] ++ KK) := fun jump A W3 h3 => by
        refine ⟨_, run_endRound jump (h3.objGet k1m), ?_⟩
        have q := h3.swap.objPut (.loop { { mk .ready none with state := .busy } with state := if jump.isNone then .ready else .done, pending := jump })
        rw [hmk] at q ⊢
        exact bk1 [_, _] (q.swap)
      intro e a3 W3 hp
      cases e with
      | normal =>
        obtain ⟨W4, hr, h4⟩ := fin none _ W3 hp
        exact ⟨_, _, hr, .inl ⟨rfl, Sep.cls _ () h4⟩⟩
      | ret =>
        obtain ⟨W4, hr, h4⟩ := fin (some .ret) _ W3 hp
        exact ⟨_, _, hr, .inr ⟨rfl, Sep.cls _ _ h4⟩⟩
      | exit id =>
        obtain ⟨W4, hr, h4⟩ := fin (some (.exit id)) _ W3 hp
        exact ⟨_, _, hr, .inr ⟨rfl, Sep.cls _ _ h4⟩⟩
      | goto t =>
        obtain ⟨W4, hr, h4⟩ := fin (some (.goto t)) _ W3 hp
        exact ⟨_, _, hr, .inr ⟨rfl, Sep.cls _ _ h4⟩⟩
      | panic ch => exact hp.elim
      | outgrown => exact hp.elim
    · rintro e W2 ⟨⟨v, rfl⟩, (⟨xs, hS, h2⟩ | ⟨pre, hSp, h2⟩)⟩
      · obtain ⟨_, h2⟩ := h2.opn
        refine ⟨none, _, ?_, hdone D xs _ hS (h2.objPut (.loop { mk .ready none with state := .exhausted })).tail⟩
        have q := run_endLoop (P := P) (h2.objGet k0m) (by rw [hmk]; simp)
        rw [hmk] at q ⊢
        exact q
      · obtain ⟨c, h2⟩ := h2.opn
        refine ⟨some c, _, ?_, hstop D c pre _ hSp (h2.objPut (.loop { mk .done (some c) with state := .exhausted })).tail⟩
        have q := run_endLoop (P := P) (h2.objGet k0m) (by rw [hmk]; simp)
        rw [hmk] at q ⊢
        exact q
end
end Go.Proofs.YtgedlabmndlooaaGreat
