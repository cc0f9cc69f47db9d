/- car: loads and stores of cars, own, wreck, grown -/
import Derived.Test.YtmacmoikjgmaoaaDoorC0
namespace Go.Proofs.YtmacmoikjgmaoaaDoor.Bo
open Go Go.RowKit

theorem gr_below {w w' : World} (h : Below w.heap.size w w') : w.grownBy w' none := ⟨h.os, h.tape, h.output, h.size, fun k hk _ => h.block k hk⟩
set_option maxRecDepth 100000 in
theorem clone_c (s : ByteArray) (w : World) (hs : s.size ≤ 281474976710656) :
    Calls Tryd.prog 33 #[.string s] w fun e w' => e = .returned (.string s) ∧ w.grownBy w' none := by
  go_enter Tryd.func33, Tryd.ntmps33
  go_wp2_with fail
  refine (Tryd.stringslite_Clone s _ hs).mono ?_
  rintro e w1 ⟨rfl, hB⟩
  have HG : Keep (w.grownBy w1 none) := ⟨gr_below hB⟩
  clear hB
  go_wp2_with fail
  go_ret
  exact ⟨rfl, HG.out⟩
theorem Sep.boxTurn {w0 W W' : World} {l : List As} {b : Nat} {cs ds : List Value} {t : TypeId} (h : Sep w0 W (boxA b cs t :: l)) (hh : Has W' b ds t) (g : W.grownBy W' (some b)) : Sep w0 W' (boxA b ds t :: l) := by
  obtain ⟨F, ⟨h1, rfl⟩, _, hu⟩ := h.use
  exact hu W' [_] (Fr.ofSome g rfl) (Loc.one (a := boxA _ _ _) _ ⟨hh, rfl⟩ (fun i hi => .inl hi))
/-- a value of many cells is laid over a part of a block -/
theorem store_at {ops : Array Oper} {rest : List Oper} {op : Oper} {a : Act} {Q : Exit → Act → World → Prop} (w3 : World) (rb o : Nat) (ds cs : List Value) (T T' : TypeId) (hgd : op.guard = none) {x y : Operand} (ho : op.op = .store T x y)
    (hx : a.eval x = .pointer (some ⟨rb, o, none⟩)) (hy : a.eval y = .agg cs.toArray) (hh : Has w3 rb ds T') (hl : o + cs.length ≤ ds.length) (hi : (Tryd.prog.info? T).map (·.size) = some cs.length) (h1 : ∀ v ∈ cs, v.oneCell' = true)
    (h : ∀ w6, (∀ w0 l, Sep w0 w3 (boxA rb ds T' :: l) → Sep w0 w6 (boxA rb (over ds o cs) T' :: l)) → w3.grownBy w6 (some rb) → wpList Tryd.prog ops Q rest (a.put op.dst undef) w6) : wpList Tryd.prog ops Q (op :: rest) a w3 := by
  have hg : w3.grownBy (w3.setCells rb o cs.toArray.toList) (some rb) := gr_sets _ _ _ _
  refine wpList_store_mid hgd T x y ho rb o cs.toArray hx hy (hh.there o cs.toArray.size (by rw [List.size_toArray]; omega)) (by rw [List.size_toArray]; exact hi) (all_oneCell_toArray h1) ?_
  exact h _ (fun w0 l hS => hS.boxTurn (hh.setCells cs o) hg) hg
theorem over_all (ds cs : List Value) (h : cs.length = ds.length) : over ds 0 cs = cs := by
  rw [over_eq _ _ _ (by omega)]; simp [h]
theorem results_c {fn : Func} {p : Tmp} {ty : TypeId} (h : fn.results = #[.cell p ty]) (tmps : Array Value) (P : Program) (w : World) :
    (results fn tmps).run P w = ((asAddr (tmps.getD p undef)).run P w).andThen fun a w₁ => (loadVar ty a).run P w₁ := by
  simp only [results, h]
  simp [Sem.run_bind, Result.andThen]
theorem ret_c {P : Program} {fn : Func} {R : Ending → World → Prop} {a : Act} {w : World} {p : Tmp} {ty t : TypeId} {b : Nat} {cs : List Value} {d : TypeDesc}
    (hr : fn.results = #[.cell p ty]) (hp : a.tmps.getD p undef = .pointer (some ⟨b, 0, none⟩)) (hh : Has w b cs t) (hu : P.underlying ty = some d) (hd : d.isRow = true)
    (hi : (P.info? ty).map (·.size) = some cs.length) (hdf : a.defers = []) (h : R (.returned (.agg cs.toArray)) w) : bodyPost P fn R .ret a w := by
  refine bodyPost_ret (v := .agg cs.toArray) ?_ hdf h
  rw [results_c hr, hp]
  simp [asAddr, Result.andThen, run_loadVar_mid w b 0 ty cs d hh.range hu hd hi]
theorem underC : ∃ d, Tryd.prog.underlying 38 = some d ∧ d.isRow = true := ⟨_, Tryd.underlying38, rfl⟩
theorem infoC : (Tryd.prog.info? 38).map (·.size) = some 14 := by kernel_rfl
theorem infoC' (c : Cr) : (Tryd.prog.info? 38).map (·.size) = some (crv c).length := infoC
def zC14 : List Value := crv (zC 0 ⟨#[]⟩)
set_option maxRecDepth 100000 in
set_option maxHeartbeats 4000000 in
theorem wreck_c (w : World) (c : Cr) : Calls Tryd.prog 49 #[.agg (crv c).toArray] w fun e w' => e = .returned (.bool (decide (0 < c.wa))) ∧ w.grownBy w' none := by
  have hh := Has.newA w (crv c).toArray 38
  have y : (w.alloc (.cells (crv c).toArray 38)).cell? ⟨w.heap.size, 11, none⟩ = some (iv c.wa) := hh.cellv 11 _ rfl
  have hg : w.grownBy (w.alloc (.cells (crv c).toArray 38)) none := World.grownBy_alloc _ _ _
  obtain ⟨W1, hW1⟩ : ∃ W1, w.alloc (.cells (crv c).toArray 38) = W1 := ⟨_, rfl⟩
  rw [hW1] at y hg
  have hsz : (crv c).toArray.size = 14 := rfl
  obtain ⟨lv, hlv⟩ : ∃ lv, (crv c).toArray = lv := ⟨_, rfl⟩
  rw [hlv] at hW1 hsz ⊢
  have HG := Keep.mk hg
  clear hh hlv hg
  go_enter Tryd.func49, Tryd.ntmps49
  go_wp2_with fail
  go_ret
  refine ⟨?_, HG.out⟩
  simp
end Go.Proofs.YtmacmoikjgmaoaaDoor.Bo
