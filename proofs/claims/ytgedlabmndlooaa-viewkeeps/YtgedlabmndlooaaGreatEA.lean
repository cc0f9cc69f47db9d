/- view: alive -/
import Derived.Test.YtgedlabmndlooaaGreatP5
import Derived.Test.YtgedlabmndlooaaGreatE9
namespace Go.Proofs.YtgedlabmndlooaaGreat
open Go Go.RowKit Go.Maps Go.Shelf Go.Lib Go.Sort

def sc0 : Cr := ⟨0, { data := #[] }, 0, 0, 0, 0, 0, 0, 0, 0, 0, 0, 0, 0⟩
def sc1 : Cr := ⟨1, { data := #[] }, 65536, 0, 0, 0, 9, 0, 0, 0, 0, 0, 0, 0⟩
def sc2 : Cr := ⟨2, { data := #[] }, 0, 0, 0, 0, 0, 0, 0, 0, 0, 1, 0, 0⟩
def sc3 : Cr := ⟨3, { data := #[] }, 196608, 0, 0, 0, 0, 0, 0, 0, 0, 0, 0, 0⟩
def ss0 : Sh := ⟨4, 0, 131072, 0, 0, 0, 0⟩
def ss1 : Sh := ⟨7, 0, 65536, 0, 0, 0, 0⟩
def sC : List Cr := [sc0, sc1, sc2, sc3]
def sS : List Sh := [ss0, ss1]
def sT : List Sn := [⟨1, 1, 65536, 0, 9⟩, ⟨2, 7, 65536, 0, 0⟩]
theorem bt0 : Tryz.prog.built 26 [(0, iv 0)] = some (crv sc0).toArray := by kernel_rfl
theorem bt1 : Tryz.prog.built 26 [(0, iv 1), (2, .agg #[iv 65536, iv 0]), (4, iv 9)] = some (crv sc1).toArray := by kernel_rfl
theorem bt2 : Tryz.prog.built 26 [(0, iv 2), (9, iv 1)] = some (crv sc2).toArray := by kernel_rfl
theorem bt3 : Tryz.prog.built 26 [(0, iv 3), (2, .agg #[iv 196608, iv 0])] = some (crv sc3).toArray := by kernel_rfl
theorem bv (x : Int) : Tryz.prog.built 24 [(0, iv x)] = some #[iv x, iv 0] := by kernel_rfl
theorem bs0 : Tryz.prog.built 46 [(0, iv 4), (2, .agg #[iv 131072, iv 0])] = some (shv ss0).toArray := by kernel_rfl
theorem bs1 : Tryz.prog.built 46 [(0, iv 7), (1, iv 0), (2, .agg #[iv 65536, iv 0])] = some (shv ss1).toArray := by kernel_rfl
theorem bst (a b : Nat) : Tryz.prog.built 37 [(0, .int .u64 3), (1, sl a 4 4), (2, sl b 2 2), (3, iv 8)] = some #[.int .u64 3, sl a 4 4, sl b 2 2, iv 8] := by kernel_rfl
theorem bslC (W : World) : (Instr.buildSlice 34 4 #[(0, .agg (crv sc0).toArray), (1, .agg (crv sc1).toArray), (2, .agg (crv sc2).toArray), (3, .agg (crv sc3).toArray)]).run Tryz.prog W = .ok (sl W.heap.size 4 4) (W.alloc (.cells (fl crv sC).toArray 26)) := by kernel_rfl
theorem bslS (W : World) : (Instr.buildSlice 35 2 #[(0, .agg (shv ss0).toArray), (1, .agg (shv ss1).toArray)]).run Tryz.prog W = .ok (sl W.heap.size 2 2) (W.alloc (.cells (fl shv sS).toArray 46)) := by kernel_rfl
theorem wpList_bs_all {P : Program} {w : World} {ops : Array Oper} {rest : List Oper} {o : Oper} {a : Act} {Q : Exit → Act → World → Prop} (hgd : o.guard = none) (t : TypeId) (n : Nat) (parts : Array (Nat × Operand))
    (ho : o.op = .buildSlice t n parts) (A : Array (Nat × Value)) (hA : (parts.map fun (i, x) => (i, a.eval x)) = A) {v' : Value} {w' : World}
    (hr : (Instr.buildSlice t n A).run P w = .ok v' w') (h : wpList P ops Q rest (a.put o.dst v') w') : wpList P ops Q (o :: rest) a w :=
  wpList_plain hgd fun _ hK => by
    unfold Oper.wp execOp
    subst hA
    simp only [ho, Sem.run_bind, Sem.run_pure, Result.andThen_ok, hr]
    exact hK _ _ h
/-- the small state as it lies -/
structure SmR (W W' : World) (e : Ending) : Prop where
  o : ∃ b1 b2, e = .returned (.agg #[.int .u64 3, sl b1 4 4, sl b2 2 2, iv 8]) ∧ W.grownBy W' none ∧ StO W' (sl b1 4 4) (sl b2 2 2) sC sS
theorem I64_lit {x : Int} (h : -9223372036854775808 ≤ x ∧ x ≤ 9223372036854775807) : I64 x := by unfold I64; omega
theorem sC_ok : ∀ c ∈ sC, CrOk c := by
  intro c hc
  simp only [sC, List.mem_cons, List.not_mem_nil, or_false] at hc
  rcases hc with rfl | rfl | rfl | rfl <;> (constructor <;> first | exact I64_lit (by decide) | decide)
theorem sS_ok : ∀ c ∈ sS, ShOk c := by
  intro c hc
  simp only [sS, List.mem_cons, List.not_mem_nil, or_false] at hc
  rcases hc with rfl | rfl <;> (constructor <;> exact I64_lit (by decide))
theorem Ls.box {α : Type} {enc : α → List Value} {k : Nat} (hk : ∀ x, (enc x).length = k) {W : World} {b : Nat} {L : List α} {t : TypeId} {n c : Nat} (h : Has W b (fl enc L) t) (hn : L.length = n) : Ls enc k W (sl b n c) L := by
  subst hn
  refine ⟨_, _, rfl, fun _ => ⟨b, 0, rfl, fun j x hx r u hu => ?_⟩⟩
  rw [Nat.zero_add]
  exact h.cellv _ _ (fl_get hk L j x r u hx hu)
structure SmF (A0 A1 A2 A3 B0 B1 CC SS : Array Value) : Prop where
  a0 : Tryz.prog.built 26 [(0, iv 0)] = some A0
  a1 : Tryz.prog.built 26 [(0, iv 1), (2, .agg #[iv 65536, iv 0]), (4, iv 9)] = some A1
  a2 : Tryz.prog.built 26 [(0, iv 2), (9, iv 1)] = some A2
  a3 : Tryz.prog.built 26 [(0, iv 3), (2, .agg #[iv 196608, iv 0])] = some A3
  b0 : Tryz.prog.built 46 [(0, iv 4), (2, .agg #[iv 131072, iv 0])] = some B0
  b1 : Tryz.prog.built 46 [(0, iv 7), (1, iv 0), (2, .agg #[iv 65536, iv 0])] = some B1
  c : ∀ W, (Instr.buildSlice 34 4 #[(0, .agg A0), (1, .agg A1), (2, .agg A2), (3, .agg A3)]).run Tryz.prog W = .ok (sl W.heap.size 4 4) (W.alloc (.cells CC 26))
  s : ∀ W, (Instr.buildSlice 35 2 #[(0, .agg B0), (1, .agg B1)]).run Tryz.prog W = .ok (sl W.heap.size 2 2) (W.alloc (.cells SS 46))
set_option maxRecDepth 100000 in
set_option maxHeartbeats 16000000 in
theorem small_g (W : World) (A0 A1 A2 A3 B0 B1 CC SS : Array Value) (hF : SmF A0 A1 A2 A3 B0 B1 CC SS) : Calls Tryz.prog 28 #[] W fun e W' => ∃ b1 b2 l, e = .returned (.agg #[.int .u64 3, sl b1 4 4, sl b2 2 2, iv 8]) ∧ Sep W W' (boxA b2 SS.toList 46 :: boxA b1 CC.toList 26 :: l) := by
  have HF := Keep.mk hF
  obtain ⟨Wa, hWa⟩ : ∃ w, W.alloc (.cells #[.int .u64 0, .slice none 0 0, .slice none 0 0, iv 0] 37) = w := ⟨_, rfl⟩
  have HA : Keep (Sep W Wa [boxA W.heap.size [.int .u64 0, .slice none 0 0, .slice none 0 0, iv 0] 37]) := ⟨by rw [← hWa]; exact (Sep.nil W).newBox _ 37⟩
  clear hF
  go_enter Tryz.func28, Tryz.ntmps28
  go_wp2_with (first
    | (with_reducible show wpList _ _ _ ({ dst := some 1, op := Op.build 26 _, type := _, pos := _, after := _, guard := _ } :: _) _ _
       refine wpList_build rfl 26 _ rfl A0 ((congrArg (Tryz.prog.built 26) (by first | (simp only [List.map_toArray, List.map_cons, List.map_nil, Act.eval]; done) | (simp only [List.map_toArray, List.map_cons, List.map_nil, Act.eval]; with_reducible rfl) | (simp only [List.map_toArray, List.map_cons, List.map_nil, Act.eval]; simp; done))).trans HF.out.a0) ?_
       simp only [Act.put, List.setIfInBounds_toArray, List.set_cons_zero, List.set_cons_succ])
    | (with_reducible show wpList _ _ _ ({ dst := some 2, op := Op.build 24 _, type := _, pos := _, after := _, guard := _ } :: _) _ _
       refine wpList_build rfl 24 _ rfl #[iv 65536, iv 0] ((congrArg (Tryz.prog.built 24) (by first | (simp only [List.map_toArray, List.map_cons, List.map_nil, Act.eval]; done) | (simp only [List.map_toArray, List.map_cons, List.map_nil, Act.eval]; with_reducible rfl) | (simp only [List.map_toArray, List.map_cons, List.map_nil, Act.eval]; simp; done))).trans (bv 65536)) ?_
       simp only [Act.put, List.setIfInBounds_toArray, List.set_cons_zero, List.set_cons_succ])
    | (with_reducible show wpList _ _ _ ({ dst := some 3, op := Op.build 26 _, type := _, pos := _, after := _, guard := _ } :: _) _ _
       refine wpList_build rfl 26 _ rfl A1 ((congrArg (Tryz.prog.built 26) (by first | (simp only [List.map_toArray, List.map_cons, List.map_nil, Act.eval]; done) | (simp only [List.map_toArray, List.map_cons, List.map_nil, Act.eval]; with_reducible rfl) | (simp only [List.map_toArray, List.map_cons, List.map_nil, Act.eval]; simp; done))).trans HF.out.a1) ?_
       simp only [Act.put, List.setIfInBounds_toArray, List.set_cons_zero, List.set_cons_succ])
    | (with_reducible show wpList _ _ _ ({ dst := some 4, op := Op.build 26 _, type := _, pos := _, after := _, guard := _ } :: _) _ _
       refine wpList_build rfl 26 _ rfl A2 ((congrArg (Tryz.prog.built 26) (by first | (simp only [List.map_toArray, List.map_cons, List.map_nil, Act.eval]; done) | (simp only [List.map_toArray, List.map_cons, List.map_nil, Act.eval]; with_reducible rfl) | (simp only [List.map_toArray, List.map_cons, List.map_nil, Act.eval]; simp; done))).trans HF.out.a2) ?_
       simp only [Act.put, List.setIfInBounds_toArray, List.set_cons_zero, List.set_cons_succ])
    | (with_reducible show wpList _ _ _ ({ dst := some 5, op := Op.build 24 _, type := _, pos := _, after := _, guard := _ } :: _) _ _
       refine wpList_build rfl 24 _ rfl #[iv 196608, iv 0] ((congrArg (Tryz.prog.built 24) (by first | (simp only [List.map_toArray, List.map_cons, List.map_nil, Act.eval]; done) | (simp only [List.map_toArray, List.map_cons, List.map_nil, Act.eval]; with_reducible rfl) | (simp only [List.map_toArray, List.map_cons, List.map_nil, Act.eval]; simp; done))).trans (bv 196608)) ?_
       simp only [Act.put, List.setIfInBounds_toArray, List.set_cons_zero, List.set_cons_succ])
    | (with_reducible show wpList _ _ _ ({ dst := some 6, op := Op.build 26 _, type := _, pos := _, after := _, guard := _ } :: _) _ _
       refine wpList_build rfl 26 _ rfl A3 ((congrArg (Tryz.prog.built 26) (by first | (simp only [List.map_toArray, List.map_cons, List.map_nil, Act.eval]; done) | (simp only [List.map_toArray, List.map_cons, List.map_nil, Act.eval]; with_reducible rfl) | (simp only [List.map_toArray, List.map_cons, List.map_nil, Act.eval]; simp; done))).trans HF.out.a3) ?_
       simp only [Act.put, List.setIfInBounds_toArray, List.set_cons_zero, List.set_cons_succ])
    | (with_reducible show wpList _ _ _ ({ dst := some 7, op := Op.buildSlice 34 _ _, type := _, pos := _, after := _, guard := _ } :: _) _ _
       refine wpList_bs_all rfl 34 4 _ rfl #[(0, .agg A0), (1, .agg A1), (2, .agg A2), (3, .agg A3)] (by first | (simp only [List.map_toArray, List.map_cons, List.map_nil, Act.eval]; done) | (simp only [List.map_toArray, List.map_cons, List.map_nil, Act.eval]; with_reducible rfl) | (simp only [List.map_toArray, List.map_cons, List.map_nil, Act.eval]; simp; done)) (HF.out.c _) ?_
       obtain ⟨Wb, hWb⟩ : ∃ w, World.alloc Wa (.cells CC 26) = w := ⟨_, rfl⟩
       simp only [Act.put, List.setIfInBounds_toArray, List.set_cons_zero, List.set_cons_succ]
       rw [hWb]
       have HWb := Keep.mk hWb
       clear hWb)
    | (with_reducible show wpList _ _ _ ({ dst := some 8, op := Op.build 24 _, type := _, pos := _, after := _, guard := _ } :: _) _ _
       refine wpList_build rfl 24 _ rfl #[iv 131072, iv 0] ((congrArg (Tryz.prog.built 24) (by first | (simp only [List.map_toArray, List.map_cons, List.map_nil, Act.eval]; done) | (simp only [List.map_toArray, List.map_cons, List.map_nil, Act.eval]; with_reducible rfl) | (simp only [List.map_toArray, List.map_cons, List.map_nil, Act.eval]; simp; done))).trans (bv 131072)) ?_
       simp only [Act.put, List.setIfInBounds_toArray, List.set_cons_zero, List.set_cons_succ])
    | (with_reducible show wpList _ _ _ ({ dst := some 9, op := Op.build 46 _, type := _, pos := _, after := _, guard := _ } :: _) _ _
       refine wpList_build rfl 46 _ rfl B0 ((congrArg (Tryz.prog.built 46) (by first | (simp only [List.map_toArray, List.map_cons, List.map_nil, Act.eval]; done) | (simp only [List.map_toArray, List.map_cons, List.map_nil, Act.eval]; with_reducible rfl) | (simp only [List.map_toArray, List.map_cons, List.map_nil, Act.eval]; simp; done))).trans HF.out.b0) ?_
       simp only [Act.put, List.setIfInBounds_toArray, List.set_cons_zero, List.set_cons_succ])
    | (with_reducible show wpList _ _ _ ({ dst := some 10, op := Op.build 24 _, type := _, pos := _, after := _, guard := _ } :: _) _ _
       refine wpList_build rfl 24 _ rfl #[iv 65536, iv 0] ((congrArg (Tryz.prog.built 24) (by first | (simp only [List.map_toArray, List.map_cons, List.map_nil, Act.eval]; done) | (simp only [List.map_toArray, List.map_cons, List.map_nil, Act.eval]; with_reducible rfl) | (simp only [List.map_toArray, List.map_cons, List.map_nil, Act.eval]; simp; done))).trans (bv 65536)) ?_
       simp only [Act.put, List.setIfInBounds_toArray, List.set_cons_zero, List.set_cons_succ])
    | (with_reducible show wpList _ _ _ ({ dst := some 11, op := Op.build 46 _, type := _, pos := _, after := _, guard := _ } :: _) _ _
       refine wpList_build rfl 46 _ rfl B1 ((congrArg (Tryz.prog.built 46) (by first | (simp only [List.map_toArray, List.map_cons, List.map_nil, Act.eval]; done) | (simp only [List.map_toArray, List.map_cons, List.map_nil, Act.eval]; with_reducible rfl) | (simp only [List.map_toArray, List.map_cons, List.map_nil, Act.eval]; simp; done))).trans HF.out.b1) ?_
       simp only [Act.put, List.setIfInBounds_toArray, List.set_cons_zero, List.set_cons_succ])
    | (with_reducible show wpList _ _ _ ({ dst := some 12, op := Op.buildSlice 35 _ _, type := _, pos := _, after := _, guard := _ } :: _) _ _
       refine wpList_bs_all rfl 35 2 _ rfl #[(0, .agg B0), (1, .agg B1)] (by first | (simp only [List.map_toArray, List.map_cons, List.map_nil, Act.eval]; done) | (simp only [List.map_toArray, List.map_cons, List.map_nil, Act.eval]; with_reducible rfl) | (simp only [List.map_toArray, List.map_cons, List.map_nil, Act.eval]; simp; done)) (HF.out.s _) ?_
       obtain ⟨Wc, hWc⟩ : ∃ w, World.alloc Wb (.cells SS 46) = w := ⟨_, rfl⟩
       simp only [Act.put, List.setIfInBounds_toArray, List.set_cons_zero, List.set_cons_succ]
       rw [hWc]
       have HWc := Keep.mk hWc
       clear hWc)
    | (with_reducible show wpList _ _ _ ({ dst := some 13, op := Op.build 37 _, type := _, pos := _, after := _, guard := _ } :: _) _ _
       refine wpList_build rfl 37 _ rfl #[.int .u64 3, sl Wa.heap.size 4 4, sl Wb.heap.size 2 2, iv 8] ((congrArg (Tryz.prog.built 37) (by first | (simp only [List.map_toArray, List.map_cons, List.map_nil, Act.eval]; done) | (simp only [List.map_toArray, List.map_cons, List.map_nil, Act.eval]; with_reducible rfl) | (simp only [List.map_toArray, List.map_cons, List.map_nil, Act.eval]; simp; done))).trans (bst _ _)) ?_
       simp only [Act.put, List.setIfInBounds_toArray, List.set_cons_zero, List.set_cons_succ])
    | (with_reducible show wpList _ _ _ ({ dst := _, op := Op.store 37 _ _, type := _, pos := _, after := _, guard := _ } :: _) _ _
       have SC := ((HA.out.newBox CC 26))
       rw [HWb.out] at SC
       have SD := SC.newBox SS 46
       rw [HWc.out] at SD
       refine store_at Wc W.heap.size 0 [.int .u64 0, .slice none 0 0, .slice none 0 0, iv 0] [.int .u64 3, sl Wa.heap.size 4 4, sl Wb.heap.size 2 2, iv 8] 37 37 rfl rfl rfl rfl (SD.boxGet k2m) (Nat.le_refl _) info37 (by intro u hu; simp only [List.mem_cons, List.not_mem_nil, or_false] at hu; rcases hu with rfl | rfl | rfl | rfl <;> rfl) ?_
       intro w6 hS6 g6
       have S6 := hS6 _ _ (fr1 [_, _] SD)
       rw [over_all [.int .u64 0, .slice none 0 0, .slice none 0 0, iv 0] [.int .u64 3, sl Wa.heap.size 4 4, sl Wb.heap.size 2 2, iv 8] rfl] at S6
       have HS6 := Keep.mk S6
       clear S6 hS6 g6 SD SC))
  obtain ⟨dv, hdv⟩ := under37
  refine ret_c rfl rfl (HS6.out.boxGet k0m) hdv.1 hdv.2 info37 rfl ?_
  exact ⟨_, _, _, rfl, HS6.out.tail⟩
theorem small_c (W : World) : Calls Tryz.prog 28 #[] W fun e W' => SmR W W' e := by
  refine (small_g W _ _ _ _ _ _ _ _ ⟨bt0, bt1, bt2, bt3, bs0, bs1, bslC, bslS⟩).mono ?_
  rintro e W' ⟨b1, b2, l, rfl, S⟩
  exact ⟨⟨_, _, rfl, S.g, ⟨Ls.box crv_len (S.boxGet k1m) rfl, Ls.box shv_len (S.boxGet k0m) rfl, sC_ok, sS_ok, by decide, by decide, by decide⟩⟩⟩
end Go.Proofs.YtgedlabmndlooaaGreat
