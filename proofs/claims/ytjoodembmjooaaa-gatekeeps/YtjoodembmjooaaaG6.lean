/- scripts; what two gates have where one player's steps are left out. -/
import Derived.Test.YtjoodembmjooaaaG5
namespace Go.Proofs.Ytjoodembmjooaaa
open Go Go.RowKit Go.Maps

structure Stp where
  op : Int
  pl : Int
  c : Cmd
def stv (s : Stp) : List Value := [iv s.op, iv s.pl, iv s.c.th, iv s.c.tu, .bool s.c.fi, .bool s.c.bo]
theorem stv_one (x : Stp) : ∀ u ∈ stv x, u.oneCell' = true := by
  intro u hu
  simp only [stv, List.mem_cons, List.not_mem_nil, or_false] at hu
  rcases hu with rfl | rfl | rfl | rfl | rfl | rfl <;> rfl
theorem underS : ∃ d, Try.prog.underlying 29 = some d ∧ d.isRow = true := ⟨_, Try.underlying29, rfl⟩
theorem infoS : (Try.prog.info? 29).map (·.size) = some 6 := by kernel_rfl
structure SrO (W : World) (v : Value) (L : List Stp) : Prop where
  o : ∃ a cap, v = .slice a L.length cap ∧ (0 < L.length → ∃ g o, a = some ⟨g, o, none⟩ ∧ ∀ (j : Nat) (x : Stp), L[j]? = some x → W.rangeAt g (o + j * 6) (stv x))
  k : ∀ x ∈ L, I64 x.pl
  len : L.length * 40 ≤ 140737488351232
theorem SrO.kept {W W' : World} {v : Value} {L : List Stp} (h : SrO W v L) (g : W.grownBy W' none) : SrO W' v L := by
  obtain ⟨a, cap, e, q⟩ := h.o
  refine ⟨⟨a, cap, e, fun hn => ?_⟩, h.k, h.len⟩
  obtain ⟨b, o, e1, q⟩ := q hn
  exact ⟨b, o, e1, fun j x hx k u hu => g.cell (q j x hx k u hu) (by simp)⟩
/-- the place of a script's step, at a world that grew -/
theorem SrO.at {w W : World} {a : Option Addr} {n cap : Nat} {L : List Stp} (h : SrO w (.slice a n cap) L) (hn : L.length = n) (g : w.grownBy W none) {i : Nat} (hi : i < n) :
    ∃ b o x, a = some ⟨b, o, none⟩ ∧ L[i]? = some x ∧ I64 x.pl ∧ W.rangeAt b (o + i * 6) (stv x) := by
  obtain ⟨a', cap', e, q⟩ := (h.kept g).o
  injection e with e1 e2 e3
  obtain ⟨b, o, e4, q⟩ := q (by omega)
  obtain ⟨x, hx⟩ : ∃ x, L[i]? = some x := ⟨_, List.getElem?_eq_getElem (by rw [hn]; exact hi)⟩
  exact ⟨b, o, x, e1.trans e4, hx, h.k x (List.mem_of_getElem? hx), q i x hx⟩
theorem mem_rmk {M : List Itn} {k : Int} {x : Itn} : x ∈ rmk M k ↔ x ∈ M ∧ x.pl ≠ k := by simp [rmk]
theorem rmk_ins {M : List Itn} (hs : Srt M) {x : Itn} (hn : look M x.pl = none) (k : Int) (hk : x.pl ≠ k) : rmk (ins x M) k = ins x (rmk M k) := by
  have hn2 : look (rmk M k) x.pl = none := by rw [look_rmk, if_neg hk, hn]
  refine strict_ext _ _ ((Srt.ins hs hn).rmk k) (Srt.ins (hs.rmk k) hn2) fun y => ?_
  rw [mem_rmk, mem_ins, mem_ins, mem_rmk]
  constructor
  · rintro ⟨rfl | h, h2⟩
    · exact .inl rfl
    · exact .inr ⟨h, h2⟩
  · rintro (rfl | ⟨h, h2⟩)
    · exact ⟨.inl rfl, hk⟩
    · exact ⟨.inr h, h2⟩
theorem rmk_ins_same {M : List Itn} (hs : Srt M) {x : Itn} (hn : look M x.pl = none) : rmk (ins x M) x.pl = rmk M x.pl := by
  refine strict_ext _ _ ((Srt.ins hs hn).rmk _) (hs.rmk _) fun y => ?_
  rw [mem_rmk, mem_ins, mem_rmk]
  constructor
  · rintro ⟨rfl | h, h2⟩
    · exact absurd rfl h2
    · exact ⟨h, h2⟩
  · rintro ⟨h, h2⟩
    exact ⟨.inr h, h2⟩
theorem rmk_comm (M : List Itn) (a b : Int) : rmk (rmk M a) b = rmk (rmk M b) a := by
  unfold rmk
  rw [List.filter_filter, List.filter_filter]
  exact List.filter_congr fun x _ => Bool.and_comm _ _
theorem rmk_same (M : List Itn) (a : Int) : rmk (rmk M a) a = rmk M a := by
  unfold rmk
  rw [List.filter_filter]
  exact List.filter_congr fun x _ => Bool.and_self _
theorem ap_ofE (M : List Itn) {p k : Int} (h : k ≠ p) : ofE (rmk M p) k = ofE M k := by
  unfold ofE
  rw [look_rmk, if_neg h]
theorem ap_ofX {M : List Itn} (hs : Gok M) {p k : Int} (h : k ≠ p) (c : Cmd) : ofX (rmk M p) k c = rmk (ofX M k c) p := by
  unfold ofX
  rw [look_rmk, if_neg h]
  cases hl : look M k with
  | some x => rfl
  | none =>
    simp only [Option.isSome_none, Bool.false_eq_true, if_false]
    exact (rmk_ins (x := lgl k c) hs.1 hl p h).symm
theorem ap_ofX_same {M : List Itn} (hs : Gok M) (p : Int) (c : Cmd) : rmk (ofX M p c) p = rmk M p := by
  unfold ofX
  cases hl : look M p with
  | some x => rfl
  | none =>
    simp only [Option.isSome_none, Bool.false_eq_true, if_false]
    exact rmk_ins_same (x := lgl p c) hs.1 hl
theorem ap_look (M : List Itn) {p k : Int} (h : k ≠ p) : (look (rmk M p) k).isSome = (look M k).isSome := by
  rw [look_rmk, if_neg h]
/-- where a thing of the shorter list stands -/
theorem rmk_at : ∀ (M : List Itn) (p : Int) (i : Nat) (x : Itn), M[i]? = some x → x.pl ≠ p → (rmk M p)[(rmk (M.take i) p).length]? = some x
  | [], p, i, x, h, _ => by simp at h
  | y :: r, p, 0, x, h, hx => by
    obtain rfl : y = x := by simpa using h
    simp [rmk, hx]
  | y :: r, p, i + 1, x, h, hx => by
    have ih := rmk_at r p i x (by simpa using h) hx
    unfold rmk at ih ⊢
    rw [List.take_succ_cons, List.filter_cons, List.filter_cons]
    by_cases hy : y.pl = p
    · simp only [hy, ne_eq, not_true_eq_false, decide_false, Bool.false_eq_true, if_false]
      exact ih
    · simp only [hy, ne_eq, not_false_eq_true, decide_true, if_true, List.length_cons, List.getElem?_cons_succ]
      exact ih
theorem rmk_take (M : List Itn) (p : Int) (i : Nat) (x : Itn) (h : M[i]? = some x) : (rmk (M.take (i + 1)) p).length = (rmk (M.take i) p).length + if x.pl = p then 0 else 1 := by
  have e : M.take (i + 1) = M.take i ++ [x] := by
    rw [List.take_add_one, h]; rfl
  unfold rmk
  rw [e, List.filter_append, List.length_append]
  by_cases hx : x.pl = p <;> simp [hx]
end Go.Proofs.Ytjoodembmjooaaa
