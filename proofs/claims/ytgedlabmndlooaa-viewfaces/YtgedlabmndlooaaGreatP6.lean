/- view: greater radius, greater show, by itself -/
import Derived.Test.YtgedlabmndlooaaGreatF0
namespace Go.Proofs.YtgedlabmndlooaaGreat
open Go Go.RowKit Go.Maps Go.Shelf Go.Lib Go.Sort

theorem Told.more {L : List Sn} {pl x y r : Int} {s s' : Nat} {T T' : List Sn} (h : Told L pl x y r s T) (h' : Told L pl x y r s' T') (hs : s ≤ s') : ∀ t ∈ T, t ∈ T' := by
  intro t ht
  refine Classical.byContradiction fun hn => ?_
  obtain ⟨m1, m2, m3⟩ := h.mem t ht
  obtain ⟨e1, q1⟩ := h'.out t m1 m2 m3 hn
  have : ∃ t' ∈ T', t' ∉ T := Classical.byContradiction fun hx => by
    have hs2 : ∀ t' ∈ T', t' ∈ T := fun t' ht' => Classical.byContradiction fun k => hx ⟨t', ht', k⟩
    have k := len_sub (t :: T') T (List.nodup_cons.2 ⟨hn, h'.nd⟩) (fun u hu => by
      rcases List.mem_cons.1 hu with rfl | hu
      · exact ht
      · exact hs2 u hu)
    have := h.len
    rw [List.length_cons] at k
    omega
  obtain ⟨t', ht', hn'⟩ := this
  obtain ⟨w1, w2, w3⟩ := h'.mem t' ht'
  exact nearer_as (q1 t' ht') ((h.out t' w1 w2 w3 hn').2 t ht)
theorem wn_mono {d r r' : Int} (h : wn d r = true) (hr : r ≤ r') : wn d r' = true := by
  unfold wn at *
  simp only [Bool.and_eq_true, decide_eq_true_eq] at *
  obtain ⟨h1, h2⟩ := h
  refine ⟨by omega, Int.le_trans h2 ?_⟩
  have a1 : 0 ≤ kz r 0 3037000499 := by unfold kz; omega
  have a2 : kz r 0 3037000499 ≤ kz r' 0 3037000499 := by unfold kz; omega
  exact Int.mul_le_mul a2 a2 a1 (Int.le_trans a1 a2)
theorem Tld.show {LC : List Cr} {LS : List Sh} {rad sho s2 : Int} {own : Cr} {T T2 : List Sn} (h : Tld LC LS rad sho own T) (h2 : Tld LC LS rad s2 own T2) (hle : kpZ sho 32 ≤ kpZ s2 32) : ∀ t ∈ T, t ∈ T2 := by
  obtain ⟨C, S, c1, s1, _, _⟩ := h.o
  exact (h.told c1 s1).more (h2.told c1 s1) (by omega)
theorem Tld.rad {LC : List Cr} {LS : List Sh} {rad sho r3 : Int} {own : Cr} {T T3 : List Sn} (h : Tld LC LS rad sho own T) (h3 : Tld LC LS r3 sho own T3) (hle : kpZ rad 1024 ≤ kpZ r3 1024) (hl : (T3.length : Int) < kpZ sho 32) : ∀ t ∈ T, t ∈ T3 := by
  obtain ⟨C, S, c1, s1, _, _⟩ := h.o
  intro t ht
  obtain ⟨m1, m2, m3⟩ := (h.told c1 s1).mem t ht
  refine Classical.byContradiction fun hn => ?_
  have := ((h3.told c1 s1).out t m1 (wn_mono m2 (by omega)) m3 hn).1
  omega
def zcar : Cr := ⟨0, { data := #[] }, 0, 0, 0, 0, 0, 0, 0, 0, 0, 0, 0, 0⟩
/-- what Of answers, at one stroke -/
def OfP (tick : Int) (LC : List Cr) (LS : List Sh) (p radius sho tk : Int) (ow : Cr) (T : List Sn) (cd : Int) : Prop :=
  (LC.find? (fun c => c.pl == p) = none ∧ cd = 210 ∧ T = []) ∨ (∃ own, LC.find? (fun c => c.pl == p) = some own ∧ cd = 0 ∧ ow = own ∧ tk = tick ∧ Tld LC LS radius sho own T)
structure OfU (W W' : World) (tick : Int) (LC : List Cr) (LS : List Sh) (p radius sho : Int) (e : Ending) : Prop where
  o : ∃ (tk : Int) (ow : Cr) (a : Option Addr) (n c : Nat) (T : List Sn) (cd : Int), e = .returned (.tuple #[.agg (vwv tk ow (.slice a n c)).toArray, iv cd]) ∧ T.length = n ∧ n ≤ 32 ∧ Sep W W' [rowV 33 5 (.slice a n c) n (fl snv T)] ∧ OfP tick LC LS p radius sho tk ow T cd
theorem of_u (W : World) (tick nx p radius sho : Int) (vc vs : Value) (LC : List Cr) (LS : List Sh) (hS : StO W vc vs LC LS) :
    Calls Tryz.prog 12 #[.agg #[.int .u64 tick, vc, vs, iv nx], iv p, iv radius, iv sho] W fun e W' => OfU W W' tick LC LS p radius sho e := by
  refine (of_c W tick nx p radius sho vc vs LC LS hS).mono ?_
  intro e W' h
  cases hfd : LC.find? (fun c => c.pl == p) with
  | none =>
    obtain ⟨rfl, g⟩ := h.no hfd
    exact ⟨0, zcar, none, 0, 0, [], 210, rfl, rfl, by omega, (Sep.start g).nilV 33 5, .inl ⟨hfd, rfl, rfl⟩⟩
  | some own =>
    obtain ⟨v, T, rfl, hT, S⟩ := h.yes own hfd
    obtain ⟨a, c, rfl⟩ := own_slice (S.rowGet k0m)
    exact ⟨tick, own, a, T.length, c, T, 0, rfl, rfl, hT.le, S, .inr ⟨own, hfd, rfl, rfl, rfl, hT⟩⟩
theorem OfP.cd {tick : Int} {LC : List Cr} {LS : List Sh} {p r s tk r' s' tk' : Int} {ow ow' : Cr} {T T' : List Sn} {cd cd' : Int} (h : OfP tick LC LS p r s tk ow T cd) (h' : OfP tick LC LS p r' s' tk' ow' T' cd') : cd = cd' := by
  rcases h with ⟨a, b, _⟩ | ⟨o, a, b, _⟩ <;> rcases h' with ⟨a', b', _⟩ | ⟨o', a', b', _⟩
  · rw [b, b']
  · rw [a] at a'; cases a'
  · rw [a] at a'; cases a'
  · rw [b, b']
theorem OfP.show {tick : Int} {LC : List Cr} {LS : List Sh} {p r s s2 tk tk' : Int} {ow ow' : Cr} {T T' : List Sn} {cd cd' : Int} (h : OfP tick LC LS p r s tk ow T cd) (h' : OfP tick LC LS p r s2 tk' ow' T' cd') (hle : kpZ s 32 ≤ kpZ s2 32) : ∀ t ∈ T, t ∈ T' := by
  rcases h with ⟨a, b, c⟩ | ⟨o, a, b, _, _, c⟩
  · rw [c]; intro t ht; cases ht
  · rcases h' with ⟨a', b', _⟩ | ⟨o', a', b', _, _, c'⟩
    · rw [a] at a'; cases a'
    · rw [a] at a'
      injection a' with a'
      subst a'
      exact c.show c' hle
theorem OfP.rad {tick : Int} {LC : List Cr} {LS : List Sh} {p r s r3 tk tk' : Int} {ow ow' : Cr} {T T' : List Sn} {cd cd' : Int} (h : OfP tick LC LS p r s tk ow T cd) (h' : OfP tick LC LS p r3 s tk' ow' T' cd') (hle : kpZ r 1024 ≤ kpZ r3 1024) (hl : (T'.length : Int) < kpZ s 32) : ∀ t ∈ T, t ∈ T' := by
  rcases h with ⟨a, b, c⟩ | ⟨o, a, b, _, _, c⟩
  · rw [c]; intro t ht; cases ht
  · rcases h' with ⟨a', b', _⟩ | ⟨o', a', b', _, _, c'⟩
    · rw [a] at a'; cases a'
    · rw [a] at a'
      injection a' with a'
      subst a'
      exact c.rad c' hle hl
section
variable {P : Program} {ops : Array Oper} {Q : Exit → Act → World → Prop} {md : Region.Mode} {S : World → Prop} {Z : List Nat}
theorem wpAnyY_two {i j : Nat} {o p : Oper} {n : Nat} {L : Array Bool} {a : Act} {w : World} (hr : Region.ready md ops L = [i, j]) (ho : ops[i]? = some o) (hp : ops[j]? = some p)
    (h : ∀ K' : Act → World → Prop, Shut (∀ a w', (S w → S w') → wpAnyY P md ops Q S Z n (L.setIfInBounds i true) a w' → K' a w') → if Region.wanted o (yielded ops a.tmps) = true then Oper.wp P o a w K' Q else K' (a.put o.dst undef) w)
    (k : ∀ K' : Act → World → Prop, Shut (∀ a w', (S w → S w') → wpAnyY P md ops Q S Z n (L.setIfInBounds j true) a w' → K' a w') → if Region.wanted p (yielded ops a.tmps) = true then Oper.wp P p a w K' Q else K' (a.put p.dst undef) w) : wpAnyY P md ops Q S Z (n + 1) L a w :=
  ⟨fun h0 => (by rw [hr] at h0; cases h0), fun l hl => by
    rw [hr] at hl
    rcases List.mem_cons.1 hl with rfl | hl
    · exact wpOp_step ho (fun K' hK => h K' (fun a w hS hW => hK a w ⟨fun _ => hS, hW⟩))
    · rw [List.mem_singleton] at hl
      subst hl
      exact wpOp_step hp (fun K' hK => k K' (fun a w hS hW => hK a w ⟨fun _ => hS, hW⟩))⟩
end
end Go.Proofs.YtgedlabmndlooaaGreat
