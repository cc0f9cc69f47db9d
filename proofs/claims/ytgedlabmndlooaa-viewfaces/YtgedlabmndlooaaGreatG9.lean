/- grid: Delete. -/
import Derived.Test.YtgedlabmndlooaaGreatG8
namespace Go.Proofs.YtgedlabmndlooaaGreat
open Go Go.RowKit

set_option maxRecDepth 100000 in
theorem Jok.like {sd : Int} {u u' : Tg} {R : List Tg} {C : List Cl} {o : Option Nat} (h : Jok sd (u :: R) C o) (hb : u'.b = u.b) (hp : u'.p = u.p) (hc : cel sd u' = cel sd u) : Jok sd (u' :: R) C o where
  to t ht ho := by
    rcases List.mem_cons.1 ht with rfl | ht
    · have := h.to u (List.mem_cons_self ..) (by rw [← hb]; exact ho)
      rw [hc, hp, hb]; exact this
    · exact h.to t (List.mem_cons_of_mem _ ht) ho
  fro d hd i b hib := by
    obtain ⟨t, ht, h1, h2, h3, h4⟩ := h.fro d hd i b hib
    rcases List.mem_cons.1 ht with rfl | ht
    · exact ⟨u', List.mem_cons_self .., by rw [hb, h1], by rw [hp, h2], by rw [hc, h3], h4⟩
    · exact ⟨t, List.mem_cons_of_mem _ ht, h1, h2, h3, h4⟩
  ne := h.ne
  kd := h.kd
  bd := by
    obtain ⟨h1, h2⟩ := List.pairwise_cons.1 h.bd
    exact List.pairwise_cons.2 ⟨fun d hd => by rw [hb]; exact h1 d hd, h2⟩
  sz := by
    have := h.sz
    simpa using this
set_option maxRecDepth 100000 in
theorem swap_last {α : Type} (P Q : List α) (a u v : α) : ((P ++ a :: (Q ++ [u])).set P.length v).take (P.length + 1 + Q.length) = P ++ v :: Q := by
  rw [List.set_append_right _ _ (Nat.le_refl _), Nat.sub_self, List.set_cons_zero, show P ++ v :: (Q ++ [u]) = (P ++ v :: Q) ++ [u] by simp, List.take_append_of_le_length (by simp; omega), List.take_of_length_le (by simp; omega)]
set_option maxRecDepth 100000 in
theorem take_last {α : Type} (P : List α) (a v : α) : ((P ++ [a]).set P.length v).take P.length = P := by
  rw [List.take_set_of_le (Nat.le_refl _), List.take_append_of_le_length (Nat.le_refl _), List.take_length]
end Go.Proofs.YtgedlabmndlooaaGreat
