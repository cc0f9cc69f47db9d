/- car: loads and stores of cars, own, wreck, grown -/
import Derived.Test.YtobdcngjpgndiabDoorC0
namespace Go.Proofs.YtobdcngjpgndiabDoor.Bo
open Go Go.RowKit

theorem gr_below {w w' : World} (h : Below w.heap.size w w') : w.grownBy w' none := ⟨h.os, h.tape, h.output, h.size, fun k hk _ => h.block k hk⟩
set_option maxRecDepth 100000 in
theorem clone_c (s : ByteArray) (w : World) (hs : s.size ≤ 281474976710656) :
    Calls Tryd.prog 45 #[.string s] w fun e w' => e = .returned (.string s) ∧ w.grownBy w' none := by
  go_enter Tryd.func45, Tryd.ntmps45
  go_wp2_with fail
  refine (Tryd.stringslite_Clone s _ hs).mono ?_
  rintro e w1 ⟨rfl, hB⟩
  have HG : Keep (w.grownBy w1 none) := ⟨gr_below hB⟩
  clear hB
  go_wp2_with fail
  go_ret
  exact ⟨rfl, HG.out⟩
theorem Sep.boxTurn {w0 W W' : World} {l : List As} {b : Nat} {cs ds : List Value} {t : TypeId} (h : Sep w0 W (boxA b cs t :: l)) (hh : Has W' b ds t) (g : W.grownBy W' (some b)) : Sep w0 W' (boxA b ds t :: l) := by
  obtain ⟨F, ⟨h1, rfl⟩, _, hu⟩ := h.use
  exact hu W' [_] (Fr.ofSome g rfl) (Loc.one (a := boxA _ _ _) _ ⟨hh, rfl⟩ (fun i hi => .inl hi))
/-- a value of many cells is laid over a part of a block -/
theorem store_at {ops : Array Oper} {rest : List Oper} {op : Oper} {a : Act} {Q : Exit → Act → World → Prop} (w3 : World) (rb o : Nat) (ds cs : List Value) (T T' : TypeId) (hgd : op.guard = none) {x y : Operand} (ho : op.op = .store T x y)
    (hx : a.eval x = .pointer (some ⟨rb, o, none⟩)) (hy : a.eval y = .agg cs.toArray) (hh : Has w3 rb ds T') (hl : o + cs.length ≤ ds.length) (hi : (Tryd.prog.info? T).map (·.size) = some cs.length) (h1 : ∀ v ∈ cs, v.oneCell' = true)
    (h : ∀ w6, (∀ w0 l, Sep w0 w3 (boxA rb ds T' :: l) → Sep w0 w6 (boxA rb (over ds o cs) T' :: l)) → w3.grownBy w6 (some rb) → wpList Tryd.prog ops Q rest (a.put op.dst undef) w6) : wpList Tryd.prog ops Q (op :: rest) a w3 := by
  have hg : w3.grownBy (w3.setCells rb o cs.toArray.toList) (some rb) := gr_sets _ _ _ _
  refine wpList_store_mid hgd T x y ho rb o cs.toArray hx hy (hh.there o cs.toArray.size (by rw [List.size_toArray]; omega)) (by rw [List.size_toArray]; exact hi) (all_oneCell_toArray h1) ?_
  exact h _ (fun w0 l hS => hS.boxTurn (hh.setCells cs o) hg) hg
theorem over_all (ds cs : List Value) (h : cs.length = ds.length) : over ds 0 cs = cs := by
  rw [over_eq _ _ _ (by omega)]; simp [h]
theorem results_c {fn : Func} {p : Tmp} {ty : TypeId} (h : fn.results = #[.cell p ty]) (tmps : Array Value) (P : Program) (w : World) :
    (results fn tmps).run P w = ((asAddr (tmps.getD p undef)).run P w).andThen fun a w₁ => (loadVar ty a).run P w₁ := by
  simp only [results, h]
  simp [Sem.run_bind, Result.andThen]
theorem ret_c {P : Program} {fn : Func} {R : Ending → World → Prop} {a : Act} {w : World} {p : Tmp} {ty t : TypeId} {b : Nat} {cs : List Value} {d : TypeDesc}
    (hr : fn.results = #[.cell p ty]) (hp : a.tmps.getD p undef = .pointer (some ⟨b, 0, none⟩)) (hh : Has w b cs t) (hu : P.underlying ty = some d) (hd : d.isRow = true)
    (hi : (P.info? ty).map (·.size) = some cs.length) (hdf : a.defers = []) (h : R (.returned (.agg cs.toArray)) w) : bodyPost P fn R .ret a w := by
  refine bodyPost_ret (v := .agg cs.toArray) ?_ hdf h
  rw [results_c hr, hp]
  simp [asAddr, Result.andThen, run_loadVar_mid w b 0 ty cs d hh.range hu hd hi]
theorem underC : ∃ d, Tryd.prog.underlying 25 = some d ∧ d.isRow = true := ⟨_, Tryd.underlying25, rfl⟩
theorem infoC : (Tryd.prog.info? 25).map (·.size) = some 14 := by kernel_rfl
theorem infoC' (c : Cr) : (Tryd.prog.info? 25).map (·.size) = some (crv c).length := infoC
theorem underI : ∃ d, Tryd.prog.underlying 34 = some d ∧ d.isRow = true := ⟨_, Tryd.underlying34, rfl⟩
theorem infoI : (Tryd.prog.info? 34).map (·.size) = some 5 := by kernel_rfl
theorem infoD : (Tryd.prog.info? 54).map (·.size) = some 21 := by kernel_rfl
def zC14 : List Value := crv (zC 0 ⟨#[]⟩)
set_option maxRecDepth 100000 in
set_option maxHeartbeats 16000000 in
theorem own_c (w : World) (c : Cr) (hn : c.nm.size ≤ 281474976710656) :
    Calls Tryd.prog 20 #[.agg (crv c).toArray] w fun e w' => e = .returned (.agg (crv c).toArray) ∧ w.grownBy w' none := by
  obtain ⟨du, hdu, hdr⟩ := underC
  have S2 := ((Sep.nil w).newBox (crv c).toArray 25).newBox zC14.toArray 25
  obtain ⟨W1, hW1⟩ : ∃ W1, w.alloc (.cells (crv c).toArray 25) = W1 := ⟨_, rfl⟩
  obtain ⟨xb, hxb⟩ : ∃ xb, w.heap.size = xb := ⟨_, rfl⟩
  rw [hW1, hxb] at S2
  obtain ⟨W2, hW2⟩ : ∃ W2, W1.alloc (.cells zC14.toArray 25) = W2 := ⟨_, rfl⟩
  obtain ⟨rb, hrb⟩ : ∃ rb, W1.heap.size = rb := ⟨_, rfl⟩
  rw [hW2, hrb] at S2
  change Sep w W2 [boxA rb zC14 25, boxA xb (crv c) 25] at S2
  have HL : Keep ((crv c)[1]? = some (.string c.nm) ∧ (crv c).set 1 (.string c.nm) = crv c ∧ (crv c).length = 14) := ⟨rfl, rfl, rfl⟩
  have HL1 := Keep.mk (crv_one c)
  have HC := fun w => Keep.mk (clone_c c.nm w hn)
  obtain ⟨lv, hlv⟩ : ∃ lv, crv c = lv := ⟨_, rfl⟩
  have hsz : lv.toArray.size = 14 := by rw [← hlv]; rfl
  rw [hlv] at S2 HL HL1 hW1 ⊢
  unfold zC14 crv zC at hW2
  have HS2 := Keep.mk S2
  have y1 : W2.cell? ⟨xb, 1, none⟩ = some (.string c.nm) := (S2.boxGet k1m).cellv 1 _ HL.out.1
  clear S2 hn hlv
  go_enter Tryd.func20, Tryd.ntmps20
  go_wp2_with fail
  refine (HC W2).out.mono ?_
  rintro e w3 ⟨rfl, g3⟩
  have S3 := (HS2.out.grown g3).swap
  have f1 : w3.frozen? ⟨xb, 1, none⟩ = false := (S3.boxGet k0m).frozen 1
  have y1 : w3.cell? ⟨xb, 1, none⟩ = some (.string c.nm) := (S3.boxGet k0m).cellv 1 _ HL.out.1
  have S4 := S3.boxPut 1 (.string c.nm)
  rw [HL.out.2.1] at S4
  obtain ⟨w4, hw4⟩ : ∃ w4, w3.setCell ⟨xb, 1, none⟩ (.string c.nm) = w4 := ⟨_, rfl⟩
  rw [hw4] at S4
  have HS4 := Keep.mk S4
  have RNG := Keep.mk (S4.boxGet k0m).range
  have HRB := Keep.mk (S4.boxGet k1m)
  clear g3 HS2 HC S3 S4 hW1 hW2 hxb hrb
  go_wp2_with (first
    | (show wpList _ _ _ ({ dst := _, op := Op.load 25 _, type := _, pos := _, after := _, guard := _ } :: _) _ _
       refine wpList_load_mid rfl 25 _ rfl _ _ rfl _ _ RNG.out hdu hdr (by rw [HL.out.2.2]; exact infoC) ?_)
    | (show wpList _ _ _ ({ dst := _, op := Op.store 25 _ _, type := _, pos := _, after := _, guard := _ } :: _) _ _
       refine store_at _ rb 0 zC14 lv 25 25 rfl rfl rfl rfl HRB.out (by rw [HL.out.2.2]; decide) (by rw [HL.out.2.2]; exact infoC) HL1.out ?_))
  intro w7 hS7 g7
  have S7 := hS7 _ _ HS4.out.swap
  rw [over_all _ _ (by rw [HL.out.2.2]; rfl)] at S7
  have HS7 := Keep.mk S7
  clear hS7 g7 S7 RNG HRB HS4
  go_wp2_with fail
  exact ret_c rfl rfl (HS7.out.boxGet k0m) hdu hdr (by rw [HL.out.2.2]; exact infoC) rfl ⟨rfl, HS7.out.g⟩
set_option maxRecDepth 100000 in
set_option maxHeartbeats 4000000 in
theorem wreck_c (w : World) (c : Cr) : Calls Tryd.prog 21 #[.agg (crv c).toArray] w fun e w' => e = .returned (.bool (decide (0 < c.wa))) ∧ w.grownBy w' none := by
  have hh := Has.newA w (crv c).toArray 25
  have y : (w.alloc (.cells (crv c).toArray 25)).cell? ⟨w.heap.size, 11, none⟩ = some (iv c.wa) := hh.cellv 11 _ rfl
  have hg : w.grownBy (w.alloc (.cells (crv c).toArray 25)) none := World.grownBy_alloc _ _ _
  obtain ⟨W1, hW1⟩ : ∃ W1, w.alloc (.cells (crv c).toArray 25) = W1 := ⟨_, rfl⟩
  rw [hW1] at y hg
  have hsz : (crv c).toArray.size = 14 := rfl
  obtain ⟨lv, hlv⟩ : ∃ lv, (crv c).toArray = lv := ⟨_, rfl⟩
  rw [hlv] at hW1 hsz ⊢
  have HG := Keep.mk hg
  clear hh hlv hg
  go_enter Tryd.func21, Tryd.ntmps21
  go_wp2_with fail
  go_ret
  refine ⟨?_, HG.out⟩
  simp
end Go.Proofs.YtobdcngjpgndiabDoor.Bo
