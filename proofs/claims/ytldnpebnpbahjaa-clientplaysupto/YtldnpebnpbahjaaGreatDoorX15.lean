import Derived.Test.YtldnpebnpbahjaaGreatDoorX13
import Derived.Test.YtldnpebnpbahjaaGreatDoorX12
import Derived.Test.YtldnpebnpbahjaaGreatDoorX14
set_option maxRecDepth 100000
namespace Go.Proofs.YtldnpebnpbahjaaGreatDoor.Pk.Sn
open Go Go.RowKit Go.Proofs.Tryz
theorem dg_one (d : Dg) : ∀ v ∈ d.cells, v.oneCell' = true := by
  intro v hv; simp only [Dg.cells, List.mem_cons, List.not_mem_nil, or_false] at hv; rcases hv with rfl | rfl | rfl | rfl | rfl | rfl | rfl | rfl | rfl | rfl | rfl | rfl | rfl | rfl | rfl <;> rfl
theorem st_new {ops : Array Oper} {rest : List Oper} {op : Oper} {a : Act} {Q : Exit → Act → World → Prop} (w3 : World) (cs : List Value) (T : TypeId) {A : Array Value} (hgd : op.guard = none) {x y : Operand} (ho : op.op = .store T x y)
    (hx : a.eval x = .pointer (some ⟨w3.heap.size, 0, none⟩)) (hy : a.eval y = .agg cs.toArray) (hA : A.size = cs.length) (hi : (prog.info? T).map (·.size) = some cs.length) (h1 : ∀ v ∈ cs, v.oneCell' = true)
    (h : ∀ w6, Has w6 w3.heap.size cs T → w3.grownBy w6 none → wpList prog ops Q rest (a.put op.dst undef) w6) : wpList prog ops Q (op :: rest) a (w3.alloc (.cells A T)) := by
  have e : A.toList.length = cs.length := by rw [Array.length_toList]; exact hA
  have hn := Has.newA w3 A T; have hg : w3.grownBy ((w3.alloc (.cells A T)).setCells w3.heap.size 0 cs.toArray.toList) none := gr_new (gAl _ _ _) (gr_sets _ _ _ _) (Nat.le_refl _); refine wpList_store_mid hgd T x y ho w3.heap.size 0 cs.toArray hx hy (hn.there 0 cs.toArray.size (by rw [e, List.size_toArray]; omega)) (by rw [List.size_toArray]; exact hi) (all_oneCell_toArray h1) ?_; exact h _ (hn.setAll cs e.symm) hg
theorem wrV_len {V : Vw} (h : V.ok) : (wrV V).1.length ≤ 7000 := by
  by_cases hf : fitV V
  · rw [wrV_yes h hf]; show (encV V).length ≤ 7000; rw [encV_len]; have h1 := fit_cnt hf.h; have h2 : (sl V.n).length < 256 := hf.h.2.2.1; rw [sl_len] at h2; omega
  · rw [wrV_no h hf]; simp
theorem fields6 : fieldsL 6 = [.session, .seq, .view, .tag] := by simp [fieldsL]
end Go.Proofs.YtldnpebnpbahjaaGreatDoor.Pk.Sn
