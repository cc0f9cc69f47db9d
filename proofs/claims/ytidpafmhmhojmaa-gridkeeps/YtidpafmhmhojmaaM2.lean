/- for GridKeeps: the same for a list that may be empty; two lists that are kept; lists of lists. -/
import Derived.Test.YtidpafmhmhojmaaM1
namespace Go.Proofs.Ytidpafmhmhojmaa
open Go Go.RowKit Go.Maps

/-- o: the block of the list that is read, none where it is empty -/
def lnV (o : Option Nat) (A : List Int) (v : Value) (B : List Int) : As := match o with
  | none => nums v B
  | some g => lnA g A v B
theorem Sep.lvStart {w0 W : World} {l : List As} {v : Value} {A : List Int} (h : Sep w0 W (nums v A :: l)) :
    ∃ o, Sep w0 W (lnV o A v A :: l) ∧ (o = none → A = []) ∧ ∀ g, o = some g → ∃ c, v = sl g A.length c := by
  by_cases e : A = []
  · exact ⟨none, h, fun _ => e, nofun⟩
  · have hl : 0 < A.length := List.length_pos_iff.2 e
    obtain ⟨g, c, rfl, _⟩ := own_any (h.rowGet k0m) hl
    exact ⟨some g, Sep.lnStart rfl h, nofun, fun g' q => by injection q with q; subst q; exact ⟨c, rfl⟩⟩
set_option maxRecDepth 100000 in
theorem Sep.lvApp {w0 W : World} {l : List As} {o : Option Nat} {A B : List Int} {v : Value} (s : Int) (h : Sep w0 W (lnV o A v B :: l)) (hm : (B.length + 1) * 8 ≤ 140737488355328) :
    ∃ g9 c9 W', (Builtin.append_ #[29, 29] 29 #[v, sl W.heap.size 1 1]).run Try.prog (W.alloc (.cells #[iv s] 3)) = .ok (sl g9 (B.length + 1) c9) W' ∧ Sep w0 W' (lnV o A (sl g9 (B.length + 1) c9) (B ++ [s]) :: l) := by
  cases o with
  | some g => exact Sep.lnApp s h hm
  | none =>
    obtain ⟨g, c, W', r, S⟩ := Sep.appI (L := B) (v := v) h [s] (by simp) (by rw [List.length_singleton]; exact hm)
    have e : (B ++ [s]).length = B.length + 1 := by simp
    rw [e] at r
    refine ⟨g, c, W', r, ?_⟩
    have S' : Sep w0 W' (rowV 3 1 (sl g (B ++ [s]).length c) (B ++ [s]).length ((B ++ [s]).map iv) :: l) := S
    show Sep w0 W' (rowV 3 1 (sl g (B.length + 1) c) (B ++ [s]).length ((B ++ [s]).map iv) :: l)
    rw [← e]
    exact S'
/-- a list of n marks, as it is read -/
def Rv (W : World) (v : Value) (n t : Nat) : Prop := ∃ a c, v = .slice a n c ∧ (0 < n → ∃ g, a = some ⟨g, 0, none⟩ ∧ g < W.heap.size ∧ ∀ k, k < n → W.cell? ⟨g, k, none⟩ = some (iv (mkZ t)))
theorem Rv.kept {W W' : World} {v : Value} {n t : Nat} {S : Nat → Prop} (h : Rv W v n t) (f : Fr S W W') (hs : ∀ i, 0 < n → v.ownBlock = some i → ¬ S i) : Rv W' v n t := by
  obtain ⟨a, c, rfl, q⟩ := h
  refine ⟨a, c, rfl, fun hn => ?_⟩
  obtain ⟨g, rfl, hg, q⟩ := q hn
  have e1 := f.block g hg (hs g hn rfl)
  refine ⟨g, rfl, Nat.lt_of_lt_of_le hg f.size, fun k hk => ?_⟩
  rw [← q k hk]; simp only [World.cell?, e1]
/-- two lists that are kept -/
def prV (va vo : Value) (n t : Nat) : As :=
  ⟨fun W F => (Rv W va n t ∧ Rv W vo (n + 40) t) ∧ F = fun i => (0 < n ∧ va.ownBlock = some i) ∨ vo.ownBlock = some i,
   fun S W W' F h f hs => by
     obtain ⟨⟨h1, h2⟩, rfl⟩ := h
     exact ⟨⟨h1.kept f (fun i hn e => hs i (.inl ⟨hn, e⟩)), h2.kept f (fun i _ e => hs i (.inr e))⟩, rfl⟩,
   fun W F h i hi => by
     obtain ⟨⟨h1, h2⟩, rfl⟩ := h
     rcases hi with ⟨hn, hi⟩ | hi
     · obtain ⟨a, c, rfl, q⟩ := h1
       obtain ⟨g, rfl, hg, _⟩ := q hn
       injection hi with hi
       have hi : g = i := hi
       subst hi; exact hg
     · obtain ⟨a, c, rfl, q⟩ := h2
       obtain ⟨g, rfl, hg, _⟩ := q (by omega)
       injection hi with hi
       have hi : g = i := hi
       subst hi; exact hg⟩
theorem own_rv {W : World} {v : Value} {n t : Nat} (h : W.ownsRow 0 3 1 v n ((List.replicate n (mkZ t)).map iv)) : Rv W v n t := by
  obtain ⟨a, c, e⟩ := own_slice h
  refine ⟨a, c, e, fun hn => ?_⟩
  obtain ⟨g, c', e', q⟩ := own_any h hn
  subst e'
  injection e with e1 e2 e3
  subst e1
  refine ⟨g, rfl, ?_, fun k hk => (q k _ (by rw [List.getElem?_map, List.getElem?_replicate, if_pos hk]; rfl)).1⟩
  rcases h.2 with ⟨e, _⟩ | ⟨g3, cap, cur, e, _, q4, _⟩
  · cases e
  · injection e with e1
    injection e1 with e1
    injection e1 with e1
    subst e1
    exact (Array.getElem?_eq_some_iff.1 q4).1
theorem Sep.lvEnd {w0 W : World} {l : List As} {o : Option Nat} {va vo : Value} {n t : Nat} (hva : ∃ a c, va = .slice a n c) (ho : o = none → n = 0) (hg : ∀ g, o = some g → ∃ c, va = sl g n c)
    (h : Sep w0 W (lnV o (List.replicate n (mkZ t)) vo (List.replicate (n + 40) (mkZ t)) :: l)) : Sep w0 W (prV va vo n t :: l) := by
  cases o with
  | none =>
    obtain rfl := ho rfl
    obtain ⟨a, c, rfl⟩ := hva
    have h' : Sep w0 W (rowV 3 1 vo (List.replicate (0 + 40) (mkZ t)).length ((List.replicate (0 + 40) (mkZ t)).map iv) :: l) := h
    obtain ⟨F, ⟨q, rfl⟩, _, hu⟩ := h'.use
    rw [List.length_replicate] at q
    exact hu W [_] (Fr.refl _ W) (Loc.one (a := prV _ _ _ _) _ ⟨⟨⟨a, c, rfl, fun h => by omega⟩, own_rv q⟩, rfl⟩ (fun i hi => .inl (by
      rcases hi with ⟨hn, _⟩ | hi
      · omega
      · exact hi)))
  | some g =>
    obtain ⟨c, rfl⟩ := hg g rfl
    have h' : Sep w0 W (lnA g (List.replicate n (mkZ t)) vo (List.replicate (n + 40) (mkZ t)) :: l) := h
    obtain ⟨F, ⟨⟨h1, h2, h3, h4, h5⟩, rfl⟩, _, hu⟩ := h'.use
    rw [List.length_replicate] at h3
    exact hu W [_] (Fr.refl _ W) (Loc.one (a := prV _ _ _ _) _ ⟨⟨⟨_, c, rfl, fun _ => ⟨g, rfl, h2, fun k hk => h1 k _ (by rw [List.getElem?_map, List.getElem?_replicate, if_pos hk]; rfl)⟩⟩, own_rv h3⟩, rfl⟩ (fun i hi => .inl (by
      rcases hi with ⟨_, hi⟩ | hi
      · injection hi with hi; exact .inl hi.symm
      · exact .inr hi)))
theorem Sep.pvGet {w0 W : World} {l : List As} {va vo : Value} {n t : Nat} (h : Sep w0 W l) (hm : prV va vo n t ∈ l) : Rv W va n t ∧ Rv W vo (n + 40) t := by
  obtain ⟨F, q, _⟩ := h.get hm
  exact q
theorem under45 : Try.prog.underlying 45 = some (.slice 29) := by kernel_rfl
theorem info29b : ∃ i, Try.prog.info? 29 = some i ∧ i.size = 1 ∧ i.bytes = 24 ∧ i.zero = some (.slice none 0 0) := by
  have h : (Try.prog.info? 29).map (fun i => (i.size, i.bytes, i.zero)) = some (1, 24, some (.slice none 0 0)) := by kernel_rfl
  cases e : Try.prog.info? 29 with
  | none => rw [e] at h; cases h
  | some i =>
    rw [e] at h
    simp only [Option.map_some, Option.some.injEq, Prod.mk.injEq] at h
    exact ⟨i, rfl, h.1, h.2.1, h.2.2⟩
/-- one list more -/
theorem Sep.appR {w0 W : World} {l : List As} {v : Value} {n : Nat} {xs : List Value} (a : Option Addr) (m c : Nat) (h : Sep w0 W (rowV 29 1 v n xs :: l)) (hm : (n + 1) * 24 ≤ 140737488355328) :
    ∃ g9 c9 W', (Builtin.append_ #[45, 45] 45 #[v, sl W.heap.size 1 1]).run Try.prog (W.alloc (.cells #[.slice a m c] 29)) = .ok (sl g9 (n + 1) c9) W' ∧ Sep w0 W' (rowV 29 1 (sl g9 (n + 1) c9) (n + 1) (xs ++ [.slice a m c]) :: l) := by
  obtain ⟨i, i1, i2, i3, i4⟩ := info29b
  exact Sep.app (z := .slice none 0 0) (bytes := 24) under45 i1 i4 i2 i3 rfl (by decide) h [.slice a m c] rfl (fun u hu => by rw [List.mem_singleton.1 hu]; rfl) hm (by decide)
end Go.Proofs.Ytidpafmhmhojmaa
