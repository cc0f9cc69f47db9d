/- E9, EA, EB, EC -/
import Derived.Test.YtgedlabmndlooaaGreatE8
import Derived.Test.YtgedlabmndlooaaGreatP5
namespace Go.Proofs.YtgedlabmndlooaaGreat
open Go Go.RowKit Go.Maps Go.Shelf Go.Lib Go.Sort

abbrev vlV (t : Int) (a : Cr) (v : Value) : Value := .agg #[.int .u64 t, iv a.pl, .string a.nm, iv a.x, iv a.y, iv a.sx, iv a.sy, iv a.hd, iv a.he, iv a.en, iv a.am, iv a.co, iv a.wa, iv a.sp, iv a.sc, v]
theorem vwv_car {W : World} {b : Nat} {t : Int} {a : Cr} {v : Value} {ty : TypeId} (h : Has W b (vwv t a v) ty) : W.rangeAt b 1 (crv a) := fun j u hu => by
  have e : (vwv t a v)[1 + j]? = some u := by
    rw [show vwv t a v = .int .u64 t :: (crv a ++ [v]) from rfl, Nat.add_comm, List.getElem?_cons_succ, List.getElem?_append_left (List.getElem?_eq_some_iff.1 hu).1]
    exact hu
  exact h.cellv (1 + j) u e
set_option maxRecDepth 100000 in
set_option maxHeartbeats 16000000 in
theorem eq_c (W : World) (ta tb : Int) (a b : Cr) (va vb : Value) (A B : List Sn) (ha : Ls snv 5 W va A) (hb : Ls snv 5 W vb B) (hn : A.length ≤ 281474976710656) :
    Calls Tryz.prog 9 #[vlV ta a va, vlV tb b vb] W fun e W' => e = .returned (.bool (decide (ta = tb ∧ a = b ∧ A = B))) ∧ W.grownBy W' none := by
  have S1 := ((Sep.nil W).newBox #[.int .u64 ta, iv a.pl, .string a.nm, iv a.x, iv a.y, iv a.sx, iv a.sy, iv a.hd, iv a.he, iv a.en, iv a.am, iv a.co, iv a.wa, iv a.sp, iv a.sc, va] 29).newBox #[.int .u64 tb, iv b.pl, .string b.nm, iv b.x, iv b.y, iv b.sx, iv b.sy, iv b.hd, iv b.he, iv b.en, iv b.am, iv b.co, iv b.wa, iv b.sp, iv b.sc, vb] 29
  simp only [World.size_alloc] at S1
  obtain ⟨b1, hb1⟩ : ∃ b, W.heap.size = b := ⟨_, rfl⟩
  obtain ⟨b2, hb2⟩ : ∃ b, b1 + 1 = b := ⟨_, rfl⟩
  obtain ⟨W1, hW1⟩ : ∃ w, (W.alloc (.cells #[.int .u64 ta, iv a.pl, .string a.nm, iv a.x, iv a.y, iv a.sx, iv a.sy, iv a.hd, iv a.he, iv a.en, iv a.am, iv a.co, iv a.wa, iv a.sp, iv a.sc, va] 29)).alloc (.cells #[.int .u64 tb, iv b.pl, .string b.nm, iv b.x, iv b.y, iv b.sx, iv b.sy, iv b.hd, iv b.he, iv b.en, iv b.am, iv b.co, iv b.wa, iv b.sp, iv b.sc, vb] 29) = w := ⟨_, rfl⟩
  rw [hW1, hb1, hb2] at S1
  have HB : Keep (Sep W W1 [boxA b2 (vwv tb b vb) 29, boxA b1 (vwv ta a va) 29]) := ⟨S1⟩
  have HS := Keep.mk (sleq_c W1 va vb A B (ha.kept HB.out.g) (hb.kept HB.out.g) hn)
  have HR1 := Keep.mk (vwv_car (HB.out.boxGet k1m))
  have HR2 := Keep.mk (vwv_car (HB.out.boxGet k0m))
  have c10 := (HB.out.boxGet k1m).cellv 0 _ rfl
  have c20 := (HB.out.boxGet k0m).cellv 0 _ rfl
  have c1f := (HB.out.boxGet k1m).cellv 15 _ rfl
  have c2f := (HB.out.boxGet k0m).cellv 15 _ rfl
  have HG := Keep.mk HB.out.g
  obtain ⟨dc, hdc⟩ := under26
  clear S1 ha hb hn HB
  by_cases ht : ta = tb
  · have t1 : (ta == tb) = true := by simp [ht]
    have t2 : decide (ta = tb) = true := by simp [ht]
    have HT := Keep.mk ht
    clear ht
    by_cases hab : a = b
    · have HE : Keep (∀ w, (Op.equalIn 10000 26 (.agg (crv a).toArray) (.agg (crv b).toArray)).run Tryz.prog w = .ok true w) := ⟨fun w => by rw [eqC, decide_eq_true hab]⟩
      have hE := HE.out
      have HAB := Keep.mk hab
      clear hab
      go_enter Tryz.func9, Tryz.ntmps9
      go_wp2_with (first
        | (show wpList _ _ _ ({ dst := some 12, op := Op.load 26 _, type := _, pos := _, after := _, guard := _ } :: _) _ _
           refine load_g rfl 26 _ rfl b1 1 rfl (crv a) _ HR1.out hdc.1 hdc.2 info26 ?_)
        | (show wpList _ _ _ ({ dst := some 14, op := Op.load 26 _, type := _, pos := _, after := _, guard := _ } :: _) _ _
           refine load_g rfl 26 _ rfl b2 1 rfl (crv b) _ HR2.out hdc.1 hdc.2 info26 ?_))
      clear hW1 hb1 hb2
      refine HS.out.mono ?_
      rintro e W2 ⟨rfl, g2⟩
      have HE2 : Keep (decide (A = B) = decide (ta = tb ∧ a = b ∧ A = B)) := ⟨decide_eq_decide.2 ⟨fun h => ⟨HT.out, HAB.out, h⟩, fun h => h.2.2⟩⟩
      have HG2 := Keep.mk (HG.out.trans g2)
      rw [HE2.out]
      obtain ⟨bb, hbb⟩ : ∃ bb, decide (ta = tb ∧ a = b ∧ A = B) = bb := ⟨_, rfl⟩
      rw [hbb]
      have HBB := Keep.mk hbb
      clear g2 hbb
      go_wp2_with fail
      go_ret
      exact ⟨by rw [HBB.out]; rfl, HG2.out⟩
    · have HE : Keep (∀ w, (Op.equalIn 10000 26 (.agg (crv a).toArray) (.agg (crv b).toArray)).run Tryz.prog w = .ok false w) := ⟨fun w => by rw [eqC, decide_eq_false hab]⟩
      have hE := HE.out
      have HF : Keep (decide (ta = tb ∧ a = b ∧ A = B) = false) := ⟨decide_eq_false (fun h => hab h.2.1)⟩
      clear hab
      go_enter Tryz.func9, Tryz.ntmps9
      go_wp2_with (first
        | (show wpList _ _ _ ({ dst := some 12, op := Op.load 26 _, type := _, pos := _, after := _, guard := _ } :: _) _ _
           refine load_g rfl 26 _ rfl b1 1 rfl (crv a) _ HR1.out hdc.1 hdc.2 info26 ?_)
        | (show wpList _ _ _ ({ dst := some 14, op := Op.load 26 _, type := _, pos := _, after := _, guard := _ } :: _) _ _
           refine load_g rfl 26 _ rfl b2 1 rfl (crv b) _ HR2.out hdc.1 hdc.2 info26 ?_))
      go_ret
      exact ⟨by rw [HF.out]; rfl, HG.out⟩
  · have t1 : (ta == tb) = false := by simp [ht]
    have t2 : decide (ta = tb) = false := by simp [ht]
    have HF : Keep (decide (ta = tb ∧ a = b ∧ A = B) = false) := ⟨decide_eq_false (fun h => ht h.1)⟩
    clear ht
    go_enter Tryz.func9, Tryz.ntmps9
    go_wp2_with fail
    go_ret
    exact ⟨by rw [HF.out]; rfl, HG.out⟩
end Go.Proofs.YtgedlabmndlooaaGreat

namespace Go.Proofs.YtgedlabmndlooaaGreat
open Go Go.RowKit Go.Maps Go.Shelf Go.Lib Go.Sort

def sc0 : Cr := ⟨0, { data := #[] }, 0, 0, 0, 0, 0, 0, 0, 0, 0, 0, 0, 0⟩
def sc1 : Cr := ⟨1, { data := #[] }, 65536, 0, 0, 0, 9, 0, 0, 0, 0, 0, 0, 0⟩
def sc2 : Cr := ⟨2, { data := #[] }, 0, 0, 0, 0, 0, 0, 0, 0, 0, 1, 0, 0⟩
def sc3 : Cr := ⟨3, { data := #[] }, 196608, 0, 0, 0, 0, 0, 0, 0, 0, 0, 0, 0⟩
def ss0 : Sh := ⟨4, 0, 131072, 0, 0, 0, 0⟩
def ss1 : Sh := ⟨7, 0, 65536, 0, 0, 0, 0⟩
def sC : List Cr := [sc0, sc1, sc2, sc3]
def sS : List Sh := [ss0, ss1]
def sT : List Sn := [⟨1, 1, 65536, 0, 9⟩, ⟨2, 7, 65536, 0, 0⟩]
theorem bt0 : Tryz.prog.built 26 [(0, iv 0)] = some (crv sc0).toArray := by kernel_rfl
theorem bt1 : Tryz.prog.built 26 [(0, iv 1), (2, .agg #[iv 65536, iv 0]), (4, iv 9)] = some (crv sc1).toArray := by kernel_rfl
theorem bt2 : Tryz.prog.built 26 [(0, iv 2), (9, iv 1)] = some (crv sc2).toArray := by kernel_rfl
theorem bt3 : Tryz.prog.built 26 [(0, iv 3), (2, .agg #[iv 196608, iv 0])] = some (crv sc3).toArray := by kernel_rfl
theorem bv (x : Int) : Tryz.prog.built 24 [(0, iv x)] = some #[iv x, iv 0] := by kernel_rfl
theorem bs0 : Tryz.prog.built 46 [(0, iv 4), (2, .agg #[iv 131072, iv 0])] = some (shv ss0).toArray := by kernel_rfl
theorem bs1 : Tryz.prog.built 46 [(0, iv 7), (1, iv 0), (2, .agg #[iv 65536, iv 0])] = some (shv ss1).toArray := by kernel_rfl
theorem bst (a b : Nat) : Tryz.prog.built 37 [(0, .int .u64 3), (1, sl a 4 4), (2, sl b 2 2), (3, iv 8)] = some #[.int .u64 3, sl a 4 4, sl b 2 2, iv 8] := by kernel_rfl
theorem bslC (W : World) : (Instr.buildSlice 34 4 #[(0, .agg (crv sc0).toArray), (1, .agg (crv sc1).toArray), (2, .agg (crv sc2).toArray), (3, .agg (crv sc3).toArray)]).run Tryz.prog W = .ok (sl W.heap.size 4 4) (W.alloc (.cells (fl crv sC).toArray 26)) := by kernel_rfl
theorem bslS (W : World) : (Instr.buildSlice 35 2 #[(0, .agg (shv ss0).toArray), (1, .agg (shv ss1).toArray)]).run Tryz.prog W = .ok (sl W.heap.size 2 2) (W.alloc (.cells (fl shv sS).toArray 46)) := by kernel_rfl
theorem wpList_bs_all {P : Program} {w : World} {ops : Array Oper} {rest : List Oper} {o : Oper} {a : Act} {Q : Exit → Act → World → Prop} (hgd : o.guard = none) (t : TypeId) (n : Nat) (parts : Array (Nat × Operand))
    (ho : o.op = .buildSlice t n parts) (A : Array (Nat × Value)) (hA : (parts.map fun (i, x) => (i, a.eval x)) = A) {v' : Value} {w' : World}
    (hr : (Instr.buildSlice t n A).run P w = .ok v' w') (h : wpList P ops Q rest (a.put o.dst v') w') : wpList P ops Q (o :: rest) a w :=
  wpList_plain hgd fun _ hK => by
    unfold Oper.wp execOp
    subst hA
    simp only [ho, Sem.run_bind, Sem.run_pure, Result.andThen_ok, hr]
    exact hK _ _ h
/-- the small state as it lies -/
structure SmR (W W' : World) (e : Ending) : Prop where
  o : ∃ b1 b2, e = .returned (.agg #[.int .u64 3, sl b1 4 4, sl b2 2 2, iv 8]) ∧ W.grownBy W' none ∧ StO W' (sl b1 4 4) (sl b2 2 2) sC sS
theorem I64_lit {x : Int} (h : -9223372036854775808 ≤ x ∧ x ≤ 9223372036854775807) : I64 x := by unfold I64; omega
theorem sC_ok : ∀ c ∈ sC, CrOk c := by
  intro c hc
  simp only [sC, List.mem_cons, List.not_mem_nil, or_false] at hc
  rcases hc with rfl | rfl | rfl | rfl <;> (constructor <;> first | exact I64_lit (by decide) | decide)
theorem sS_ok : ∀ c ∈ sS, ShOk c := by
  intro c hc
  simp only [sS, List.mem_cons, List.not_mem_nil, or_false] at hc
  rcases hc with rfl | rfl <;> (constructor <;> exact I64_lit (by decide))
theorem Ls.box {α : Type} {enc : α → List Value} {k : Nat} (hk : ∀ x, (enc x).length = k) {W : World} {b : Nat} {L : List α} {t : TypeId} {n c : Nat} (h : Has W b (fl enc L) t) (hn : L.length = n) : Ls enc k W (sl b n c) L := by
  subst hn
  refine ⟨_, _, rfl, fun _ => ⟨b, 0, rfl, fun j x hx r u hu => ?_⟩⟩
  rw [Nat.zero_add]
  exact h.cellv _ _ (fl_get hk L j x r u hx hu)
structure SmF (A0 A1 A2 A3 B0 B1 CC SS : Array Value) : Prop where
  a0 : Tryz.prog.built 26 [(0, iv 0)] = some A0
  a1 : Tryz.prog.built 26 [(0, iv 1), (2, .agg #[iv 65536, iv 0]), (4, iv 9)] = some A1
  a2 : Tryz.prog.built 26 [(0, iv 2), (9, iv 1)] = some A2
  a3 : Tryz.prog.built 26 [(0, iv 3), (2, .agg #[iv 196608, iv 0])] = some A3
  b0 : Tryz.prog.built 46 [(0, iv 4), (2, .agg #[iv 131072, iv 0])] = some B0
  b1 : Tryz.prog.built 46 [(0, iv 7), (1, iv 0), (2, .agg #[iv 65536, iv 0])] = some B1
  c : ∀ W, (Instr.buildSlice 34 4 #[(0, .agg A0), (1, .agg A1), (2, .agg A2), (3, .agg A3)]).run Tryz.prog W = .ok (sl W.heap.size 4 4) (W.alloc (.cells CC 26))
  s : ∀ W, (Instr.buildSlice 35 2 #[(0, .agg B0), (1, .agg B1)]).run Tryz.prog W = .ok (sl W.heap.size 2 2) (W.alloc (.cells SS 46))
set_option maxRecDepth 100000 in
set_option maxHeartbeats 16000000 in
theorem small_g (W : World) (A0 A1 A2 A3 B0 B1 CC SS : Array Value) (hF : SmF A0 A1 A2 A3 B0 B1 CC SS) : Calls Tryz.prog 28 #[] W fun e W' => ∃ b1 b2 l, e = .returned (.agg #[.int .u64 3, sl b1 4 4, sl b2 2 2, iv 8]) ∧ Sep W W' (boxA b2 SS.toList 46 :: boxA b1 CC.toList 26 :: l) := by
  have HF := Keep.mk hF
  obtain ⟨Wa, hWa⟩ : ∃ w, W.alloc (.cells #[.int .u64 0, .slice none 0 0, .slice none 0 0, iv 0] 37) = w := ⟨_, rfl⟩
  have HA : Keep (Sep W Wa [boxA W.heap.size [.int .u64 0, .slice none 0 0, .slice none 0 0, iv 0] 37]) := ⟨by rw [← hWa]; exact (Sep.nil W).newBox _ 37⟩
  clear hF
  go_enter Tryz.func28, Tryz.ntmps28
  go_wp2_with (first
    | (with_reducible show wpList _ _ _ ({ dst := some 1, op := Op.build 26 _, type := _, pos := _, after := _, guard := _ } :: _) _ _
       refine wpList_build rfl 26 _ rfl A0 ((congrArg (Tryz.prog.built 26) (by first | (simp only [List.map_toArray, List.map_cons, List.map_nil, Act.eval]; done) | (simp only [List.map_toArray, List.map_cons, List.map_nil, Act.eval]; with_reducible rfl) | (simp only [List.map_toArray, List.map_cons, List.map_nil, Act.eval]; simp; done))).trans HF.out.a0) ?_
       simp only [Act.put, List.setIfInBounds_toArray, List.set_cons_zero, List.set_cons_succ])
    | (with_reducible show wpList _ _ _ ({ dst := some 2, op := Op.build 24 _, type := _, pos := _, after := _, guard := _ } :: _) _ _
       refine wpList_build rfl 24 _ rfl #[iv 65536, iv 0] ((congrArg (Tryz.prog.built 24) (by first | (simp only [List.map_toArray, List.map_cons, List.map_nil, Act.eval]; done) | (simp only [List.map_toArray, List.map_cons, List.map_nil, Act.eval]; with_reducible rfl) | (simp only [List.map_toArray, List.map_cons, List.map_nil, Act.eval]; simp; done))).trans (bv 65536)) ?_
       simp only [Act.put, List.setIfInBounds_toArray, List.set_cons_zero, List.set_cons_succ])
    | (with_reducible show wpList _ _ _ ({ dst := some 3, op := Op.build 26 _, type := _, pos := _, after := _, guard := _ } :: _) _ _
       refine wpList_build rfl 26 _ rfl A1 ((congrArg (Tryz.prog.built 26) (by first | (simp only [List.map_toArray, List.map_cons, List.map_nil, Act.eval]; done) | (simp only [List.map_toArray, List.map_cons, List.map_nil, Act.eval]; with_reducible rfl) | (simp only [List.map_toArray, List.map_cons, List.map_nil, Act.eval]; simp; done))).trans HF.out.a1) ?_
       simp only [Act.put, List.setIfInBounds_toArray, List.set_cons_zero, List.set_cons_succ])
    | (with_reducible show wpList _ _ _ ({ dst := some 4, op := Op.build 26 _, type := _, pos := _, after := _, guard := _ } :: _) _ _
       refine wpList_build rfl 26 _ rfl A2 ((congrArg (Tryz.prog.built 26) (by first | (simp only [List.map_toArray, List.map_cons, List.map_nil, Act.eval]; done) | (simp only [List.map_toArray, List.map_cons, List.map_nil, Act.eval]; with_reducible rfl) | (simp only [List.map_toArray, List.map_cons, List.map_nil, Act.eval]; simp; done))).trans HF.out.a2) ?_
       simp only [Act.put, List.setIfInBounds_toArray, List.set_cons_zero, List.set_cons_succ])
    | (with_reducible show wpList _ _ _ ({ dst := some 5, op := Op.build 24 _, type := _, pos := _, after := _, guard := _ } :: _) _ _
       refine wpList_build rfl 24 _ rfl #[iv 196608, iv 0] ((congrArg (Tryz.prog.built 24) (by first | (simp only [List.map_toArray, List.map_cons, List.map_nil, Act.eval]; done) | (simp only [List.map_toArray, List.map_cons, List.map_nil, Act.eval]; with_reducible rfl) | (simp only [List.map_toArray, List.map_cons, List.map_nil, Act.eval]; simp; done))).trans (bv 196608)) ?_
       simp only [Act.put, List.setIfInBounds_toArray, List.set_cons_zero, List.set_cons_succ])
    | (with_reducible show wpList _ _ _ ({ dst := some 6, op := Op.build 26 _, type := _, pos := _, after := _, guard := _ } :: _) _ _
       refine wpList_build rfl 26 _ rfl A3 ((congrArg (Tryz.prog.built 26) (by first | (simp only [List.map_toArray, List.map_cons, List.map_nil, Act.eval]; done) | (simp only [List.map_toArray, List.map_cons, List.map_nil, Act.eval]; with_reducible rfl) | (simp only [List.map_toArray, List.map_cons, List.map_nil, Act.eval]; simp; done))).trans HF.out.a3) ?_
       simp only [Act.put, List.setIfInBounds_toArray, List.set_cons_zero, List.set_cons_succ])
    | (with_reducible show wpList _ _ _ ({ dst := some 7, op := Op.buildSlice 34 _ _, type := _, pos := _, after := _, guard := _ } :: _) _ _
       refine wpList_bs_all rfl 34 4 _ rfl #[(0, .agg A0), (1, .agg A1), (2, .agg A2), (3, .agg A3)] (by first | (simp only [List.map_toArray, List.map_cons, List.map_nil, Act.eval]; done) | (simp only [List.map_toArray, List.map_cons, List.map_nil, Act.eval]; with_reducible rfl) | (simp only [List.map_toArray, List.map_cons, List.map_nil, Act.eval]; simp; done)) (HF.out.c _) ?_
       obtain ⟨Wb, hWb⟩ : ∃ w, World.alloc Wa (.cells CC 26) = w := ⟨_, rfl⟩
       simp only [Act.put, List.setIfInBounds_toArray, List.set_cons_zero, List.set_cons_succ]
       rw [hWb]
       have HWb := Keep.mk hWb
       clear hWb)
    | (with_reducible show wpList _ _ _ ({ dst := some 8, op := Op.build 24 _, type := _, pos := _, after := _, guard := _ } :: _) _ _
       refine wpList_build rfl 24 _ rfl #[iv 131072, iv 0] ((congrArg (Tryz.prog.built 24) (by first | (simp only [List.map_toArray, List.map_cons, List.map_nil, Act.eval]; done) | (simp only [List.map_toArray, List.map_cons, List.map_nil, Act.eval]; with_reducible rfl) | (simp only [List.map_toArray, List.map_cons, List.map_nil, Act.eval]; simp; done))).trans (bv 131072)) ?_
       simp only [Act.put, List.setIfInBounds_toArray, List.set_cons_zero, List.set_cons_succ])
    | (with_reducible show wpList _ _ _ ({ dst := some 9, op := Op.build 46 _, type := _, pos := _, after := _, guard := _ } :: _) _ _
       refine wpList_build rfl 46 _ rfl B0 ((congrArg (Tryz.prog.built 46) (by first | (simp only [List.map_toArray, List.map_cons, List.map_nil, Act.eval]; done) | (simp only [List.map_toArray, List.map_cons, List.map_nil, Act.eval]; with_reducible rfl) | (simp only [List.map_toArray, List.map_cons, List.map_nil, Act.eval]; simp; done))).trans HF.out.b0) ?_
       simp only [Act.put, List.setIfInBounds_toArray, List.set_cons_zero, List.set_cons_succ])
    | (with_reducible show wpList _ _ _ ({ dst := some 10, op := Op.build 24 _, type := _, pos := _, after := _, guard := _ } :: _) _ _
       refine wpList_build rfl 24 _ rfl #[iv 65536, iv 0] ((congrArg (Tryz.prog.built 24) (by first | (simp only [List.map_toArray, List.map_cons, List.map_nil, Act.eval]; done) | (simp only [List.map_toArray, List.map_cons, List.map_nil, Act.eval]; with_reducible rfl) | (simp only [List.map_toArray, List.map_cons, List.map_nil, Act.eval]; simp; done))).trans (bv 65536)) ?_
       simp only [Act.put, List.setIfInBounds_toArray, List.set_cons_zero, List.set_cons_succ])
    | (with_reducible show wpList _ _ _ ({ dst := some 11, op := Op.build 46 _, type := _, pos := _, after := _, guard := _ } :: _) _ _
       refine wpList_build rfl 46 _ rfl B1 ((congrArg (Tryz.prog.built 46) (by first | (simp only [List.map_toArray, List.map_cons, List.map_nil, Act.eval]; done) | (simp only [List.map_toArray, List.map_cons, List.map_nil, Act.eval]; with_reducible rfl) | (simp only [List.map_toArray, List.map_cons, List.map_nil, Act.eval]; simp; done))).trans HF.out.b1) ?_
       simp only [Act.put, List.setIfInBounds_toArray, List.set_cons_zero, List.set_cons_succ])
    | (with_reducible show wpList _ _ _ ({ dst := some 12, op := Op.buildSlice 35 _ _, type := _, pos := _, after := _, guard := _ } :: _) _ _
       refine wpList_bs_all rfl 35 2 _ rfl #[(0, .agg B0), (1, .agg B1)] (by first | (simp only [List.map_toArray, List.map_cons, List.map_nil, Act.eval]; done) | (simp only [List.map_toArray, List.map_cons, List.map_nil, Act.eval]; with_reducible rfl) | (simp only [List.map_toArray, List.map_cons, List.map_nil, Act.eval]; simp; done)) (HF.out.s _) ?_
       obtain ⟨Wc, hWc⟩ : ∃ w, World.alloc Wb (.cells SS 46) = w := ⟨_, rfl⟩
       simp only [Act.put, List.setIfInBounds_toArray, List.set_cons_zero, List.set_cons_succ]
       rw [hWc]
       have HWc := Keep.mk hWc
       clear hWc)
    | (with_reducible show wpList _ _ _ ({ dst := some 13, op := Op.build 37 _, type := _, pos := _, after := _, guard := _ } :: _) _ _
       refine wpList_build rfl 37 _ rfl #[.int .u64 3, sl Wa.heap.size 4 4, sl Wb.heap.size 2 2, iv 8] ((congrArg (Tryz.prog.built 37) (by first | (simp only [List.map_toArray, List.map_cons, List.map_nil, Act.eval]; done) | (simp only [List.map_toArray, List.map_cons, List.map_nil, Act.eval]; with_reducible rfl) | (simp only [List.map_toArray, List.map_cons, List.map_nil, Act.eval]; simp; done))).trans (bst _ _)) ?_
       simp only [Act.put, List.setIfInBounds_toArray, List.set_cons_zero, List.set_cons_succ])
    | (with_reducible show wpList _ _ _ ({ dst := _, op := Op.store 37 _ _, type := _, pos := _, after := _, guard := _ } :: _) _ _
       have SC := ((HA.out.newBox CC 26))
       rw [HWb.out] at SC
       have SD := SC.newBox SS 46
       rw [HWc.out] at SD
       refine store_at Wc W.heap.size 0 [.int .u64 0, .slice none 0 0, .slice none 0 0, iv 0] [.int .u64 3, sl Wa.heap.size 4 4, sl Wb.heap.size 2 2, iv 8] 37 37 rfl rfl rfl rfl (SD.boxGet k2m) (Nat.le_refl _) info37 (by intro u hu; simp only [List.mem_cons, List.not_mem_nil, or_false] at hu; rcases hu with rfl | rfl | rfl | rfl <;> rfl) ?_
       intro w6 hS6 g6
       have S6 := hS6 _ _ (fr1 [_, _] SD)
       rw [over_all [.int .u64 0, .slice none 0 0, .slice none 0 0, iv 0] [.int .u64 3, sl Wa.heap.size 4 4, sl Wb.heap.size 2 2, iv 8] rfl] at S6
       have HS6 := Keep.mk S6
       clear S6 hS6 g6 SD SC))
  obtain ⟨dv, hdv⟩ := under37
  refine ret_c rfl rfl (HS6.out.boxGet k0m) hdv.1 hdv.2 info37 rfl ?_
  exact ⟨_, _, _, rfl, HS6.out.tail⟩
theorem small_c (W : World) : Calls Tryz.prog 28 #[] W fun e W' => SmR W W' e := by
  refine (small_g W _ _ _ _ _ _ _ _ ⟨bt0, bt1, bt2, bt3, bs0, bs1, bslC, bslS⟩).mono ?_
  rintro e W' ⟨b1, b2, l, rfl, S⟩
  exact ⟨⟨_, _, rfl, S.g, ⟨Ls.box crv_len (S.boxGet k1m) rfl, Ls.box shv_len (S.boxGet k0m) rfl, sC_ok, sS_ok, by decide, by decide, by decide⟩⟩⟩
end Go.Proofs.YtgedlabmndlooaaGreat

namespace Go.Proofs.YtgedlabmndlooaaGreat
open Go Go.RowKit Go.Maps Go.Shelf Go.Lib Go.Sort

theorem sC_fst : Fst1 (fun c : Cr => c.pl) sC sC := ⟨by decide, fun x => ⟨fun h => by
  simp only [sC, List.mem_cons, List.not_mem_nil, or_false] at h
  rcases h with rfl | rfl | rfl | rfl <;> rfl, fun h => List.mem_of_find?_eq_some h⟩⟩
theorem sS_fst : Fst1 (fun c : Sh => c.id) sS sS := ⟨by decide, fun x => ⟨fun h => by
  simp only [sS, List.mem_cons, List.not_mem_nil, or_false] at h
  rcases h with rfl | rfl <;> rfl, fun h => List.mem_of_find?_eq_some h⟩⟩
theorem sT_tld : Tld sC sS 5 2 sc0 sT := ⟨⟨sC, sS, sC_fst, sS_fst, by
  have e : (fil sc0.pl (nsS (seenC sC ++ sS.map shoS) sc0.x sc0.y (65536 * kpZ 5 1024) (kpZ 2 32 + 1))).take (kpZ 2 32).toNat = sT := by kernel_rfl
  rw [e], by decide⟩⟩
def tA : Sn := ⟨1, 1, 65536, 0, 9⟩
theorem btA : Tryz.prog.built 33 [(0, iv 1), (1, iv 1), (2, .agg #[iv 65536, iv 0]), (3, iv 9)] = some (snv tA).toArray := by kernel_rfl
set_option maxRecDepth 100000 in
set_option maxHeartbeats 16000000 in
theorem alive_c (W : World) : Calls Tryz.prog 11 #[] W fun e W' => e = .returned (.bool true) ∧ W.grownBy W' none := by
  have HSM := Keep.mk small_c
  obtain ⟨du, hdu⟩ := under33
  go_enter Tryz.func11, Tryz.ntmps11
  go_wp2_with fail
  refine (HSM.out W).mono ?_
  rintro e W1 ⟨b1, b2, rfl, g1, st1⟩
  have HG1 := Keep.mk g1
  have HO := Keep.mk (of_c W1 3 8 0 5 2 (sl b1 4 4) (sl b2 2 2) sC sS st1)
  clear g1 st1
  go_wp2_with fail
  refine HO.out.mono ?_
  rintro e W2 hOf
  obtain ⟨v, T, rfl, ht, S2⟩ := hOf.yes sc0 (by kernel_rfl)
  obtain rfl : T = sT := ht.uniq sT_tld
  obtain ⟨g, c, e, _⟩ := own_any (S2.rowGet k0m) (by decide)
  obtain rfl : v = sl g 2 c := e
  have HS2 : Keep (Sep W1 W2 [rowV 33 5 (sl g 2 c) 2 (fl snv sT)]) := ⟨S2⟩
  have HON : Keep (∀ u ∈ vwv 3 sc0 (sl g 2 c), u.oneCell' = true) := ⟨vwv_one 3 sc0 (sl g 2 c) ⟨_, _, _, rfl⟩⟩
  clear S2 ht hOf HO
  go_wp2_with (
    (with_reducible show wpList _ _ _ ({ dst := _, op := Op.store 29 _ _, type := _, pos := _, after := _, guard := _ } :: _) _ _
     refine store_new W2 (vwv 3 sc0 (sl g 2 c)) 29 rfl rfl rfl rfl rfl info29 HON.out ?_))
  intro W3 hS3 g3
  obtain ⟨vb, hvb⟩ : ∃ b, W2.heap.size = b := ⟨_, rfl⟩
  have S3 := hS3 _ _ HS2.out
  rw [hvb] at S3 ⊢
  have HS3 := Keep.mk S3
  clear hS3 S3 HS2 hvb g3
  go_wp2_with fail
  refine (HSM.out W3).mono ?_
  rintro e W4 ⟨b3, b4, rfl, g4, st4⟩
  have HS4 := Keep.mk (HS3.out.grown g4)
  have HO := Keep.mk (of_c W4 3 8 9 5 2 (sl b3 4 4) (sl b4 2 2) sC sS st4)
  clear g4 st4 HS3
  go_wp2_with fail
  refine HO.out.mono ?_
  rintro e W5 hOf
  obtain ⟨rfl, g5⟩ := hOf.no (by kernel_rfl)
  have HS5 := Keep.mk (HS4.out.grown g5)
  clear g5 hOf HS4 HO
  go_wp2_with (
    (with_reducible show wpList _ _ _ ({ dst := _, op := Op.store 29 _ _, type := _, pos := _, after := _, guard := _ } :: _) _ _
     refine store_new W5 zvw 29 rfl rfl rfl rfl rfl info29 zvw_one ?_))
  intro W6 hS6 g6
  have HS6 := Keep.mk (HS5.out.grown g6)
  clear hS6 HS5 g6
  have c0 := (HS6.out.boxGet k0m).cellv 0 _ rfl
  have cf := (HS6.out.boxGet k0m).cellv 15 _ rfl
  obtain ⟨g', c', e, hq⟩ := own_any (HS6.out.rowGet k1m) (by decide)
  obtain ⟨rfl, rfl⟩ : g = g' ∧ c = c' := by
    injection e with e1 e2 e3
    injection e1 with e1
    injection e1 with e1
    exact ⟨e1, e3⟩
  have c6 := (hq 6 (iv 7) rfl).1
  have HRT : Keep (W6.rangeAt g 0 (snv tA)) := ⟨fun j u hu => by
    rw [Nat.zero_add]
    refine (hq j u ?_).1
    rw [show fl snv sT = snv tA ++ snv ⟨2, 7, 65536, 0, 0⟩ from rfl, List.getElem?_append_left (List.getElem?_eq_some_iff.1 hu).1]
    exact hu⟩
  have HE : Keep (∀ w, (Op.equalIn 10000 33 (.agg (snv tA).toArray) (.agg (snv tA).toArray)).run Tryz.prog w = .ok true w) := ⟨fun w => by rw [eqN]; simp⟩
  have hE := HE.out
  have HBA := Keep.mk btA
  have HBV := Keep.mk (bv 65536)
  clear e hq
  go_wp2_with (first
    | (with_reducible show wpList _ _ _ ({ dst := some 36, op := Op.load 33 _, type := _, pos := _, after := _, guard := _ } :: _) _ _
       refine load_g rfl 33 _ rfl g 0 rfl (snv tA) _ HRT.out hdu.1 hdu.2 info33 ?_)
    | (with_reducible show wpList _ _ _ ({ dst := some 37, op := Op.build 24 _, type := _, pos := _, after := _, guard := _ } :: _) _ _
       refine build_g rfl 24 _ rfl #[iv 65536, iv 0] ((congrArg (Tryz.prog.built 24) (by first | (simp only [List.map_toArray, List.map_cons, List.map_nil, Act.eval]; done) | (simp only [List.map_toArray, List.map_cons, List.map_nil, Act.eval]; with_reducible rfl))).trans HBV.out) ?_
       simp only [Act.put, List.setIfInBounds_toArray, List.set_cons_zero, List.set_cons_succ])
    | (with_reducible show wpList _ _ _ ({ dst := some 38, op := Op.build 33 _, type := _, pos := _, after := _, guard := _ } :: _) _ _
       refine build_g rfl 33 _ rfl (snv tA).toArray ((congrArg (Tryz.prog.built 33) (by first | (simp only [List.map_toArray, List.map_cons, List.map_nil, Act.eval]; done) | (simp only [List.map_toArray, List.map_cons, List.map_nil, Act.eval]; simp; done))).trans HBA.out) ?_
       simp only [Act.put, List.setIfInBounds_toArray, List.set_cons_zero, List.set_cons_succ]))
  refine (HSM.out W6).mono ?_
  rintro e W7 ⟨b5, b6, rfl, g7, st7⟩
  have HG7 := Keep.mk (HG1.out.trans (HS6.out.g.trans g7))
  have HA := Keep.mk (all_c W7 3 8 5 32 (sl b5 4 4) (sl b6 2 2) sC sS st7 (by decide))
  clear g7 st7 hE c0 cf c6
  go_wp2_with fail
  refine HA.out.mono ?_
  rintro e W8 ⟨v8, rfl, q8⟩
  obtain ⟨C, Vs, f1, _, hm, _, S8⟩ := q8.o
  obtain ⟨a8, c8, rfl⟩ := own_slice (S8.rowGet k0m)
  have hl : Vs.length = 4 := by
    have q := congrArg List.length hm
    rw [List.length_map, f1.uniq sC_fst] at q
    exact q
  rw [hl]
  have HG8 := Keep.mk (HG7.out.trans S8.g)
  clear S8 hl q8 HA
  go_wp2_with fail
  go_ret
  exact ⟨rfl, HG8.out⟩
end Go.Proofs.YtgedlabmndlooaaGreat

namespace Go.Proofs.YtgedlabmndlooaaGreat
open Go Go.RowKit Go.Maps Go.Shelf Go.Lib Go.Sort

set_option maxRecDepth 100000 in
set_option maxHeartbeats 16000000 in
theorem req_c (W : World) (ta tb : Int) (a b : Cr) (va vb : Value) (A B : List Sn) (ha : Ls snv 5 W va A) (hb : Ls snv 5 W vb B) (hn : A.length ≤ 281474976710656) :
    Calls Tryz.prog 10 #[vlV ta a va, vlV tb b vb] W fun e W' => e = .returned (.bool (decide (ta = tb ∧ a = b ∧ A = B))) ∧ W.grownBy W' none := by
  obtain ⟨res, hres⟩ : ∃ r, decide (ta = tb ∧ a = b ∧ A = B) = r := ⟨_, rfl⟩
  rw [hres]
  have HRES := Keep.mk hres
  clear hres
  obtain ⟨a1, c1, rfl, ha⟩ := ha
  obtain ⟨a2, c2, rfl, hb⟩ := hb
  obtain ⟨m, hma⟩ : ∃ n, A.length = n := ⟨_, rfl⟩
  obtain ⟨n, hnb⟩ : ∃ n, B.length = n := ⟨_, rfl⟩
  have HA := Keep.mk ha
  have HB0 := Keep.mk hb
  rw [hma] at hn ⊢
  rw [hnb]
  have HMA := Keep.mk hma
  have HNB := Keep.mk hnb
  have S1 := ((Sep.nil W).newBox #[.int .u64 ta, iv a.pl, .string a.nm, iv a.x, iv a.y, iv a.sx, iv a.sy, iv a.hd, iv a.he, iv a.en, iv a.am, iv a.co, iv a.wa, iv a.sp, iv a.sc, .slice a1 m c1] 29).newBox #[.int .u64 tb, iv b.pl, .string b.nm, iv b.x, iv b.y, iv b.sx, iv b.sy, iv b.hd, iv b.he, iv b.en, iv b.am, iv b.co, iv b.wa, iv b.sp, iv b.sc, .slice a2 n c2] 29
  simp only [World.size_alloc] at S1
  obtain ⟨b1, hb1⟩ : ∃ b, W.heap.size = b := ⟨_, rfl⟩
  obtain ⟨b2, hb2⟩ : ∃ b, b1 + 1 = b := ⟨_, rfl⟩
  obtain ⟨W1, hW1⟩ : ∃ w, (W.alloc (.cells #[.int .u64 ta, iv a.pl, .string a.nm, iv a.x, iv a.y, iv a.sx, iv a.sy, iv a.hd, iv a.he, iv a.en, iv a.am, iv a.co, iv a.wa, iv a.sp, iv a.sc, .slice a1 m c1] 29)).alloc (.cells #[.int .u64 tb, iv b.pl, .string b.nm, iv b.x, iv b.y, iv b.sx, iv b.sy, iv b.hd, iv b.he, iv b.en, iv b.am, iv b.co, iv b.wa, iv b.sp, iv b.sc, .slice a2 n c2] 29) = w := ⟨_, rfl⟩
  rw [hW1, hb1, hb2] at S1
  have HB : Keep (Sep W W1 [boxA b2 (vwv tb b (.slice a2 n c2)) 29, boxA b1 (vwv ta a (.slice a1 m c1)) 29]) := ⟨S1⟩
  have HR1 := Keep.mk (vwv_car (HB.out.boxGet k1m))
  have HR2 := Keep.mk (vwv_car (HB.out.boxGet k0m))
  have c10 := (HB.out.boxGet k1m).cellv 0 _ rfl
  have c20 := (HB.out.boxGet k0m).cellv 0 _ rfl
  have c1f := (HB.out.boxGet k1m).cellv 15 _ rfl
  have c2f := (HB.out.boxGet k0m).cellv 15 _ rfl
  obtain ⟨dc, hdc⟩ := under26
  obtain ⟨du, hdu⟩ := under33
  clear S1 ha hb hma hnb
  by_cases ht : ta = tb
  · have t1 : (ta == tb) = true := by simp [ht]
    have t2 : decide (ta = tb) = true := by simp [ht]
    have t3 : (ta != tb) = false := by simp [ht]
    have HT := Keep.mk ht
    clear ht
    by_cases hab : a = b
    · have HE : Keep (∀ w, (Op.equalIn 10000 26 (.agg (crv a).toArray) (.agg (crv b).toArray)).run Tryz.prog w = .ok true w) := ⟨fun w => by rw [eqC, decide_eq_true hab]⟩
      have hE := HE.out
      have HAB := Keep.mk hab
      clear hab
      by_cases hmn : m = n
      · subst hmn
        go_enter Tryz.func10, Tryz.ntmps10
        go_wp2_with (first
          | (with_reducible show wpList _ _ _ ({ dst := some 13, op := Op.load 26 _, type := _, pos := _, after := _, guard := _ } :: _) _ _
             refine load_g rfl 26 _ rfl b1 1 rfl (crv a) _ HR1.out hdc.1 hdc.2 info26 ?_)
          | (with_reducible show wpList _ _ _ ({ dst := some 15, op := Op.load 26 _, type := _, pos := _, after := _, guard := _ } :: _) _ _
             refine load_g rfl 26 _ rfl b2 1 rfl (crv b) _ HR2.out hdc.1 hdc.2 info26 ?_))
        clear hW1 hb1 hb2 hE c10 c20 c1f c2f t1 t2 t3
        go_loopw [5] (fun u5 wr => ∃ i : Nat, i ≤ m ∧ u5 = iv i ∧ Keep (A.take i = B.take i) ∧ Keep (Sep W wr [boxA b2 (vwv tb b (.slice a2 m c2)) 29, boxA b1 (vwv ta a (.slice a1 m c1)) 29])) (fun u5 _ => (m - intOf u5).toNat)
        case atStart => exact ⟨0, by omega, rfl, ⟨rfl⟩, HB⟩
        case round =>
          clear HB
          obtain ⟨i, hi, rfl, HI, HB⟩ := hrel
          have d1 := (HB.out.boxGet k1m).cellv 15 _ rfl
          by_cases hlt : i < m
          · have hlt1 : (i : Int) < (m : Int) := by omega
            have hi0 : (0 : Int) ≤ (i : Int) := by omega
            have hit : ((i : Nat) : Int).toNat = i := by omega
            have hiw : IntKind.i64.wrap ((i : Int) + 1) = ((i + 1 : Nat) : Int) := by rw [IntKind.wrap_i64]; omega
            obtain ⟨x, hx⟩ : ∃ x, A[i]? = some x := ⟨_, List.getElem?_eq_getElem (by rw [HMA.out]; exact hlt)⟩
            obtain ⟨y, hy⟩ : ∃ y, B[i]? = some y := ⟨_, List.getElem?_eq_getElem (by rw [HNB.out]; exact hlt)⟩
            obtain ⟨g1, o1, e1, q1⟩ := HA.out (by rw [HMA.out]; omega)
            obtain ⟨g2, o2, e2, q2⟩ := HB0.out (by rw [HNB.out]; omega)
            subst e1 e2
            have HX : Keep (W.rangeAt g1 (o1 + i * 5) (snv x)) := ⟨q1 i x hx⟩
            have HY : Keep (W.rangeAt g2 (o2 + i * 5) (snv y)) := ⟨q2 i y hy⟩
            obtain ⟨bb, hbb⟩ : ∃ bb, decide (x = y) = bb := ⟨_, rfl⟩
            have HNE : Keep (∀ w, (Op.equalIn 10000 33 (.agg (snv x).toArray) (.agg (snv y).toArray)).run Tryz.prog w = .ok bb w) := ⟨fun w => by rw [← hbb]; exact eqN x y w⟩
            have HTk : Keep (A.take (i + 1) = A.take i ++ [x] ∧ B.take (i + 1) = B.take i ++ [y]) := ⟨⟨by rw [List.take_add_one, hx]; rfl, by rw [List.take_add_one, hy]; rfl⟩⟩
            have HF : Keep (bb = false → A ≠ B) := ⟨fun h e => by
              rw [h] at hbb
              have := of_decide_eq_false hbb
              subst e
              rw [hx] at hy
              injection hy with hy
              exact this hy⟩
            have HTr : Keep (bb = true → A.take (i + 1) = B.take (i + 1)) := ⟨fun h => by
              rw [h] at hbb
              rw [HTk.out.1, HTk.out.2, HI.out, of_decide_eq_true hbb]⟩
            have HIN : Keep (i < m) := ⟨hlt⟩
            clear q1 q2 hx hy hbb hlt hi
            go_wp2_with fail
            clear d1
            refine region_Y (S := fun w' => Sep W w' [boxA b2 (vwv tb b (.slice (some ⟨g2, o2, none⟩) m c2)) 29, boxA b1 (vwv ta a (.slice (some ⟨g1, o1, none⟩) m c1)) 29]) [] (by kernel_rfl) ?_
            obtain ⟨W0, hW0⟩ : ∃ W_, wr.drew = W_ := ⟨_, rfl⟩
            replace HB := Keep.mk (HB.out.grown (gr_drew _ none))
            rw [hW0] at HB ⊢
            clear hW0
            have hHeld : (fun w' => Sep W w' [boxA b2 (vwv tb b (.slice (some ⟨g2, o2, none⟩) m c2)) 29, boxA b1 (vwv ta a (.slice (some ⟨g1, o1, none⟩) m c1)) 29]) W0 := HB.out
            refine yp (i := 0) (v := ?_) rfl (Or.inl ⟨by rfl, ?_⟩) ?_
            rotate_left
            · (intro w hSw; go_simp; first | done | (with_reducible rfl))
            simp only [Act.put, A1, A3, A4, A5, A6]
            refine yt (i := 1) (v := ?_) rfl (Or.inl ⟨by rfl, ?_⟩) (by assumption) ?_
            rotate_left
            · (intro w hSw; have q := (hSw.boxGet k1m).cellv 15 _ rfl; go_simp; first | done | (with_reducible rfl))
            simp only [Act.put, A1, A2, A3, A4, A5, A6]
            refine yp (i := 2) (v := ?_) rfl (Or.inl ⟨by rfl, ?_⟩) ?_
            rotate_left
            · (intro w hSw; go_simp; first | done | (with_reducible rfl))
            simp only [Act.put, A1, A2, A3, A4, A5, A6]
            refine yp (i := 3) (v := ?_) rfl (Or.inl ⟨by rfl, ?_⟩) ?_
            rotate_left
            · (intro w hSw; go_simp; first | done | (with_reducible rfl))
            simp only [Act.put, A1, A2, A3, A4, A5, A6]
            refine yt (i := 4) (v := .agg (snv x).toArray) rfl (yieldsIf_load_mid (by rfl) 33 _ rfl _ _ rfl _ _ (fun w hSw => fun r u hu => hSw.g.cell (HX.out r u hu) (by simp)) hdu.1 hdu.2 info33) (by assumption) ?_
            simp only [Act.put, A1, A2, A3, A4, A5, A6]
            refine yp (i := 5) (v := ?_) rfl (Or.inl ⟨by rfl, ?_⟩) ?_
            rotate_left
            · (intro w hSw; go_simp; first | done | (with_reducible rfl))
            simp only [Act.put, A1, A2, A3, A4, A5, A6]
            refine yt (i := 6) (v := ?_) rfl (Or.inl ⟨by rfl, ?_⟩) (by assumption) ?_
            rotate_left
            · (intro w hSw; have q := (hSw.boxGet k0m).cellv 15 _ rfl; go_simp; first | done | (with_reducible rfl))
            simp only [Act.put, A1, A2, A3, A4, A5, A6]
            refine yp (i := 7) (v := ?_) rfl (Or.inl ⟨by rfl, ?_⟩) ?_
            rotate_left
            · (intro w hSw; go_simp; first | done | (with_reducible rfl))
            simp only [Act.put, A1, A2, A3, A4, A5, A6]
            refine yp (i := 8) (v := ?_) rfl (Or.inl ⟨by rfl, ?_⟩) ?_
            rotate_left
            · (intro w hSw; go_simp; first | done | (with_reducible rfl))
            simp only [Act.put, A1, A2, A3, A4, A5, A6]
            refine yt (i := 9) (v := .agg (snv y).toArray) rfl (yieldsIf_load_mid (by rfl) 33 _ rfl _ _ rfl _ _ (fun w hSw => fun r u hu => hSw.g.cell (HY.out r u hu) (by simp)) hdu.1 hdu.2 info33) (by assumption) ?_
            simp only [Act.put, A1, A2, A3, A4, A5, A6]
            refine yp (i := 10) (v := .bool (!bb)) rfl (Or.inl ⟨by rfl, ?_⟩) ?_
            · (intro w hSw; have q := HNE.out w; go_simp; first | done | rfl | (simp; done) | trace_state)
            simp only [Act.put, A1, A2, A3, A4, A5, A6]
            refine wpAnyY_done (by kernel_rfl) ?_ _
            clear hHeld
            cases bb
            · have HE2 : Keep (decide (ta = tb ∧ a = b ∧ A = B) = false) := ⟨decide_eq_false (fun h => HF.out rfl h.2.2)⟩
              go_wp2_with fail
              go_ret
              exact ⟨by rw [← HRES.out, HE2.out]; rfl, HB.out.g⟩
            · have HI2 := Keep.mk (HTr.out rfl)
              go_wp2_with fail
              go_roundw
              case rel => exact ⟨i + 1, HIN.out, rfl, HI2, HB⟩
              case measure => simp [intOf]; have := HIN.out; omega
          · have hlt1 : ¬ (i : Int) < (m : Int) := by omega
            have HE2 : Keep (decide (ta = tb ∧ a = b ∧ A = B) = true) := ⟨decide_eq_true ⟨HT.out, HAB.out, by
              have q := HI.out
              rw [show i = A.length by rw [HMA.out]; omega, List.take_length, show A.length = B.length by rw [HMA.out, HNB.out], List.take_length] at q
              exact q⟩⟩
            clear hlt hi
            go_wp2_with fail
            go_ret
            exact ⟨by rw [← HRES.out, HE2.out]; rfl, HB.out.g⟩
      · have m1 : ((m : Int) == (n : Int)) = false := by simp; omega
        have m2 : ((m : Int) != (n : Int)) = true := by rw [bne, m1]; rfl
        have m3 : decide ((m : Int) = (n : Int)) = false := by simp; omega
        have m4 : (m == n) = false := by simp [hmn]
        have m5 : decide (m = n) = false := by simp [hmn]
        have HF : Keep (decide (ta = tb ∧ a = b ∧ A = B) = false) := ⟨decide_eq_false (fun h => hmn (by rw [← HMA.out, ← HNB.out, h.2.2]))⟩
        clear hmn
        go_enter Tryz.func10, Tryz.ntmps10
        go_wp2_with (first
          | (with_reducible show wpList _ _ _ ({ dst := some 13, op := Op.load 26 _, type := _, pos := _, after := _, guard := _ } :: _) _ _
             refine load_g rfl 26 _ rfl b1 1 rfl (crv a) _ HR1.out hdc.1 hdc.2 info26 ?_)
          | (with_reducible show wpList _ _ _ ({ dst := some 15, op := Op.load 26 _, type := _, pos := _, after := _, guard := _ } :: _) _ _
             refine load_g rfl 26 _ rfl b2 1 rfl (crv b) _ HR2.out hdc.1 hdc.2 info26 ?_))
        go_ret
        exact ⟨by rw [← HRES.out, HF.out]; rfl, HB.out.g⟩
    · have HE : Keep (∀ w, (Op.equalIn 10000 26 (.agg (crv a).toArray) (.agg (crv b).toArray)).run Tryz.prog w = .ok false w) := ⟨fun w => by rw [eqC, decide_eq_false hab]⟩
      have hE := HE.out
      have HF : Keep (decide (ta = tb ∧ a = b ∧ A = B) = false) := ⟨decide_eq_false (fun h => hab h.2.1)⟩
      clear hab
      go_enter Tryz.func10, Tryz.ntmps10
      go_wp2_with (first
        | (with_reducible show wpList _ _ _ ({ dst := some 13, op := Op.load 26 _, type := _, pos := _, after := _, guard := _ } :: _) _ _
           refine load_g rfl 26 _ rfl b1 1 rfl (crv a) _ HR1.out hdc.1 hdc.2 info26 ?_)
        | (with_reducible show wpList _ _ _ ({ dst := some 15, op := Op.load 26 _, type := _, pos := _, after := _, guard := _ } :: _) _ _
           refine load_g rfl 26 _ rfl b2 1 rfl (crv b) _ HR2.out hdc.1 hdc.2 info26 ?_))
      go_ret
      exact ⟨by rw [← HRES.out, HF.out]; rfl, HB.out.g⟩
  · have t1 : (ta == tb) = false := by simp [ht]
    have t2 : decide (ta = tb) = false := by simp [ht]
    have t3 : (ta != tb) = true := by simp [ht]
    have HF : Keep (decide (ta = tb ∧ a = b ∧ A = B) = false) := ⟨decide_eq_false (fun h => ht h.1)⟩
    clear ht
    go_enter Tryz.func10, Tryz.ntmps10
    go_wp2_with fail
    go_ret
    exact ⟨by rw [← HRES.out, HF.out]; rfl, HB.out.g⟩
end Go.Proofs.YtgedlabmndlooaaGreat
