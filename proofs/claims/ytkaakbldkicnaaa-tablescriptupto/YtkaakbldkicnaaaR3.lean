/- what is told and wanted; scripts. -/
import Derived.Test.YtkaakbldkicnaaaR1
namespace Go.Proofs.Ytkaakbldkicnaaa
open Go Go.RowKit Go.Maps

def pureA (p : Prop) : As := ⟨fun _ F => p ∧ F = fun _ => False, fun _ _ _ _ h _ _ => h, fun _ _ h i hi => by rw [h.2] at hi; exact hi.elim⟩
theorem Sep.fact {w0 W : World} {l : List As} {p : Prop} (h : Sep w0 W l) (hm : pureA p ∈ l) : p := by
  obtain ⟨F, q, _⟩ := h.get hm
  exact q
theorem Sep.know {w0 W : World} {l : List As} {p : Prop} (h : Sep w0 W l) (hp : p) : Sep w0 W (pureA p :: l) :=
  h.new (World.grownBy.refl _ _) (Loc.one (a := pureA p) (fun _ => False) ⟨hp, rfl⟩ (fun _ hi => hi.elim))
abbrev Bk := Value × Value × List ByteArray
def bks (B : List Bk) : List As := B.flatMap fun q => [rowA q.1 q.2.2, rowA q.2.1 q.2.2]
def bookL (tv wv : Value) (n : Nat) (B : List Bk) : List As := pureA (B.length = n ∧ ∀ q ∈ B, q.2.2.length ≤ 4096) :: rowV 22 1 tv n (B.map fun q => q.1) :: rowV 22 1 wv n (B.map fun q => q.2.1) :: bks B
/-- what was told, and what it must stay: n of each -/
def bookA (tv wv : Value) (n : Nat) : As := exA (bookL tv wv n)
theorem Sep.noBook {w0 W : World} {l : List As} (h : Sep w0 W l) : Sep w0 W (bookA (.slice none 0 0) (.slice none 0 0) 0 :: l) :=
  Sep.cls (bookL _ _ _) [] (((h.nilV 22 1).nilV 22 1).know ⟨rfl, fun _ h => by cases h⟩)
/-- one more of each -/
theorem Sep.addBook {w0 W : World} {l : List As} {tv' wv' v u : Value} {n : Nat} {B : List Bk} {xs : List ByteArray} (hB : B.length = n ∧ ∀ q ∈ B, q.2.2.length ≤ 4096) (hx : xs.length ≤ 4096)
    (h : Sep w0 W (rowV 22 1 tv' (n + 1) (B.map (fun q => q.1) ++ [v]) :: rowV 22 1 wv' (n + 1) (B.map (fun q => q.2.1) ++ [u]) :: rowA v xs :: rowA u xs :: (bks B ++ l))) : Sep w0 W (bookA tv' wv' (n + 1) :: l) := by
  refine Sep.cls (bookL _ _ _) (B ++ [(v, u, xs)]) (Sep.know ?_ ⟨by rw [List.length_append, hB.1]; rfl, fun q hq => ?_⟩)
  rotate_left
  · rcases List.mem_append.1 hq with hq | hq
    · exact hB.2 q hq
    · rw [List.mem_singleton] at hq
      subst hq
      exact hx
  rw [List.map_append, List.map_append]
  simp only [bks, List.flatMap_append, List.flatMap_cons, List.flatMap_nil, List.append_nil, List.map_cons, List.map_nil]
  refine h.perm (List.Perm.cons _ (List.Perm.cons _ ?_))
  exact (List.perm_append_comm (l₁ := [rowA v xs, rowA u xs]) (l₂ := bks B)).append_right l
theorem mem_bks {B : List Bk} {q : Bk} (h : q ∈ B) : rowA q.1 q.2.2 ∈ bks B ∧ rowA q.2.1 q.2.2 ∈ bks B :=
  ⟨List.mem_flatMap.2 ⟨q, h, by simp⟩, List.mem_flatMap.2 ⟨q, h, by simp⟩⟩
/-- one thing to do, as it lies, looked at m levels deep; c: how many there are at most -/
def OpV (W : World) : Nat → List Value → Nat → Prop
  | 0, vs, c => ∃ (k a : Int) (key : ByteArray) (x : Int) (inn : Value), vs = [iv k, iv a, .string key, iv x, inn] ∧ key.size ≤ 1048576 ∧ 1 ≤ c
  | m + 1, vs, c => ∃ (k a : Int) (key : ByteArray) (x : Int) (a0 : Option Addr) (n cap : Nat) (cs : List Nat), vs = [iv k, iv a, .string key, iv x, .slice a0 n cap] ∧ key.size ≤ 1048576 ∧ cs.length = n ∧ n ≤ 1048576 ∧ cs.sum + 1 ≤ c ∧
      (0 < n → ∃ B o, a0 = some ⟨B, o, none⟩ ∧ ∀ j cj, cs[j]? = some cj → ∃ vj, W.rangeAt B (o + j * 5) vj ∧ OpV W m vj cj)
end Go.Proofs.Ytkaakbldkicnaaa
