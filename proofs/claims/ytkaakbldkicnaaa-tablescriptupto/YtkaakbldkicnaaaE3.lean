/- TableTurns' two Eachs. -/
import Derived.Test.YtkaakbldkicnaaaE2
namespace Go.Proofs.Ytkaakbldkicnaaa
open Go Go.RowKit Go.Maps

theorem Sep.addBox {w0 W : World} {l : List As} (h : Sep w0 W l) (v : Value) (t : TypeId) : Sep w0 (W.alloc (.cells #[v] t)) (boxA W.heap.size [v] t :: l) :=
  h.new (World.grownBy_alloc _ _ _) (Loc.one (a := boxA _ _ _) _ ⟨Has.newA W #[v] t, rfl⟩ (fun i hi => .inr (by rw [hi]; exact Nat.le_refl _)))
theorem swap23 {w0 W : World} {a b c d e : As} {l : List As} (h : Sep w0 W (a :: b :: c :: d :: e :: l)) : Sep w0 W (c :: d :: e :: a :: b :: l) :=
  h.perm ((List.perm_append_comm (l₁ := [a, b]) (l₂ := [c, d, e])).append_right l)
theorem swap32 {w0 W : World} {a b c d e : As} {l : List As} (h : Sep w0 W (c :: d :: e :: a :: b :: l)) : Sep w0 W (a :: b :: c :: d :: e :: l) :=
  h.perm ((List.perm_append_comm (l₁ := [c, d, e]) (l₂ := [a, b])).append_right l)
abbrev up (add : Int) (x : Int) : Int := IntKind.i64.wrap (x + add)
/-- the first Each: where it stands -/
def I1 (L : KV) (add : Int) (cb ab : Nat) (R : List As) (i : Nat) (L' : KV) (l : List As) : Prop :=
  L' = Tb.upto (up add) L i ∧ ∃ vc, l = boxA cb [vc] 22 :: rowA vc ((Tb.keys L).take i) :: boxA ab [iv add] 3 :: R
theorem hf22 (a : Array Value) (W : World) : (callFunc 22 a).run Try.prog W = .ok (.enter 22 a) W := by rfl
theorem hf23 (a : Array Value) (W : World) : (callFunc 23 a).run Try.prog W = .ok (.enter 23 a) W := by rfl
theorem key_get {L : KV} (i : Nat) (k : ByteArray) (hk : (Tb.keys L)[i]? = some k) : ∃ p : ByteArray × Int, L[i]? = some p ∧ p.1 = k := by
  simp only [Tb.keys, List.getElem?_map] at hk
  cases hq : L[i]? with
  | none => rw [hq] at hk; cases hk
  | some p => rw [hq] at hk; exact ⟨p, rfl, Option.some.inj hk⟩
theorem each1 (w0 W : World) (tb sz n cb ab : Nat) (L : KV) (add : Int) (R : List As) (h : Sep w0 W (tabA tb sz L :: boxA cb [.slice none 0 0] 22 :: rowA (.slice none 0 0) [] :: boxA ab [iv add] 3 :: R)) (hn : L.length = n) (hp : 0 < n) :
    Calls Try.prog 21 #[pt tb, .func (.func 22) #[] #[pt cb, pt ab]] W fun r W' => r = .returned (.tuple #[]) ∧ ∃ vc, Sep w0 W' (tabA tb sz (L.map fun p => (p.1, up add p.2)) :: boxA cb [vc] 22 :: rowA vc (Tb.keys L) :: boxA ab [iv add] 3 :: R) := by
  have ok := h.tab k0m
  have hget := @key_get L
  refine (each_pos w0 W tb sz n 22 #[pt cb, pt ab] hf22 (I1 L add cb ab R) L _ h ⟨(Tb.upto_zero _ _).symm, _, rfl⟩ hn hp ?_ ?_).mono ?_
  · rintro i L' l k hk ⟨rfl, _⟩ hl
    obtain ⟨p, hp1, rfl⟩ := hget i k hk
    rw [(Tb.upto_step hp1 ok.nk).1] at hl
    cases hl
  · rintro i L' l k x W1 v hk ⟨rfl, vc, rfl⟩ hl S
    obtain ⟨p, hp1, rfl⟩ := hget i k hk
    obtain ⟨e1, e2⟩ := Tb.upto_step (g := up add) hp1 ok.nk
    rw [e1] at hl
    obtain rfl := Option.some.inj hl
    refine (clos1_c w0 W1 cb ab p.1 p.2 add vc _ _ (swap23 S) (by rw [List.length_take, List.length_map]; have := ok.le; have := ok.hi; omega)).mono ?_
    rintro r W2 ⟨vc', rfl, S2⟩
    refine ⟨_, _, _, rfl, swap32 S2, e2, vc', ?_⟩
    obtain ⟨hi, e⟩ := List.getElem?_eq_some_iff.1 hk
    rw [List.take_succ_eq_append_getElem hi, e]
  · rintro r W' ⟨rfl, L', l, ⟨rfl, vc, rfl⟩, S⟩
    refine ⟨rfl, vc, ?_⟩
    rw [← hn, Tb.upto_all, List.take_of_length_le (by rw [List.length_map]; exact Nat.le_refl _)] at S
    exact S
abbrev lw (add : Int) (x : Int) : Int := IntKind.i64.wrap (x - add)
def I2 (L : KV) (nb db pb fb ab tb : Nat) (D f : ByteArray) (add : Int) (R : List As) (i : Nat) (L' : KV) (l : List As) : Prop :=
  L' = Tb.dn (lw add) D f L i ∧ l = box5 nb db pb fb ab tb (i : Nat) D f add R
theorem move1 {w0 W : World} {a b c d e f g : As} {l : List As} (h : Sep w0 W (a :: b :: c :: d :: e :: f :: g :: l)) : Sep w0 W (a :: c :: d :: e :: f :: g :: b :: l) :=
  h.perm (List.Perm.cons _ (List.perm_middle (l₁ := [c, d, e, f, g])).symm)
theorem move2 {w0 W : World} {a b c d e f g : As} {l : List As} (h : Sep w0 W (a :: c :: d :: e :: f :: g :: b :: l)) : Sep w0 W (a :: b :: c :: d :: e :: f :: g :: l) :=
  h.perm (List.Perm.cons _ (List.perm_middle (l₁ := [c, d, e, f, g])))
theorem each2 (w0 W : World) (tb sz n nb db pb fb ab : Nat) (L : KV) (D f : ByteArray) (add : Int) (R : List As) (h : Sep w0 W (tabA tb sz L :: box5 nb db pb fb ab tb 0 D f add R)) (hn : L.length = n) (hp : 0 < n) (hf : f ∉ Tb.keys L) (hs : L.length < sz) (hfs : f.size ≤ 281474976710656) (hDs : D.size ≤ 1048576) :
    Calls Try.prog 21 #[pt tb, .func (.func 23) #[] #[pt nb, pt db, pt pb, pt fb, pt ab]] W fun r W' => r = .returned (.tuple #[]) ∧ Sep w0 W' (tabA tb sz (Tb.dn (lw add) D f L n) :: box5 nb db pb fb ab tb (n : Nat) D f add R) := by
  have ok := h.tab k0m
  have hle : L.length ≤ 4096 := by have := ok.le; have := ok.hi; omega
  refine (each_pos w0 W tb sz n 23 #[pt nb, pt db, pt pb, pt fb, pt ab] hf23 (I2 L nb db pb fb ab tb D f add R) L _ h ⟨(Tb.dn_zero _ _ _ _).symm, rfl⟩ hn hp ?_ ?_).mono ?_
  · rintro i L' l k hk ⟨rfl, _⟩ hl
    obtain ⟨p, hp1, rfl⟩ := key_get i k hk
    rw [Tb.dn_look hp1 ok.nk hf] at hl
    cases hl
  · rintro i L' l k x W1 v hk ⟨rfl, rfl⟩ hl S
    obtain ⟨p, hp1, rfl⟩ := key_get i k hk
    rw [Tb.dn_look hp1 ok.nk hf] at hl
    obtain rfl := Option.some.inj hl
    have hi : i < L.length := (List.getElem?_eq_some_iff.1 hp1).1
    have hst := Tb.dn_step (g := lw add) (D := D) hp1 ok.nk hf hs
    have S' := move1 S
    by_cases hD : p.1 = D
    · rw [if_pos hD] at hst
      by_cases h0 : i = 0
      · rw [if_pos h0] at hst
        refine (clos2_ez w0 W1 tb sz nb db pb fb ab _ p.1 D f p.2 (i : Nat) add _ S' hfs (by omega) hD (by omega)).mono ?_
        rintro r W2 ⟨rfl, S2⟩
        exact ⟨_, _, _, rfl, move2 S2, hst, by simp⟩
      · rw [if_neg h0] at hst
        refine (clos2_es w0 W1 tb sz nb db pb fb ab _ p.1 D f p.2 (i : Nat) add _ S' (by omega) hD (by omega) (by omega)).mono ?_
        rintro r W2 ⟨rfl, S2⟩
        exact ⟨_, _, _, rfl, move2 S2, hst, by simp⟩
    · rw [if_neg hD] at hst
      by_cases h0 : i = 0
      · rw [if_pos h0] at hst
        refine (clos2_nz w0 W1 tb sz nb db pb fb ab _ p.1 D f p.2 (i : Nat) add _ S' hfs hD (by omega)).mono ?_
        rintro r W2 ⟨rfl, S2⟩
        exact ⟨_, _, _, rfl, move2 S2, hst, by simp⟩
      · rw [if_neg h0] at hst
        refine (clos2_ns w0 W1 tb sz nb db pb fb ab _ p.1 D f p.2 (i : Nat) add _ S' hD (by omega) (by omega)).mono ?_
        rintro r W2 ⟨rfl, S2⟩
        exact ⟨_, _, _, rfl, move2 S2, hst, by simp⟩
  · rintro r W' ⟨rfl, L', l, ⟨rfl, rfl⟩, S⟩
    exact ⟨rfl, S⟩
end Go.Proofs.Ytkaakbldkicnaaa
