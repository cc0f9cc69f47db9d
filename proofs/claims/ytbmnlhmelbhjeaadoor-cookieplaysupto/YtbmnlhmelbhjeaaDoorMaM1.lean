/- mac.write -/
import Derived.Test.YtbmnlhmelbhjeaaDoorMaMPure
namespace Go.Proofs.YtbmnlhmelbhjeaaDoor
open Go Go.RowKit

def zero512 : Array Value := ((List.replicate 512 (0 : UInt8)).map bv).toArray
theorem zero65 : ∀ W : World, (zeroValue 78).run Tryd.prog W = .ok (.agg zero512) W :=
  (zero_of_info (P := Tryd.prog) (t := 78) (v := .agg zero512) (n := 512) (by kernel_rfl)).1
theorem zero512_list : zero512.toList = (List.replicate 512 (0 : UInt8)).map bv := rfl
theorem copy_str (w : World) (ty : TypeId) (b o dLen dCap m : Nat) (t : ByteArray) (hm : m = Nat.min t.size dLen) (hth : w.there b o m) :
    (Builtin.copy_ #[67, 9] ty #[.slice (some ⟨b, o, none⟩) dLen dCap, .string t]).run Tryd.prog w = .ok (.int .i64 m) (w.setCells b o (((sl t).take m).map bv)) := by
  have hl : (((sl t).take m).map bv).length = m := by
    rw [List.length_map, List.length_take, sl_len, hm]
    exact Nat.min_eq_left (Nat.min_le_left _ _)
  have hst := run_storeCells_cells (P := Tryd.prog) b o (((sl t).take m).map bv) 0 w (by rw [hl]; intro j hj; simpa using (hth j hj).1) (by rw [hl]; intro j hj; simpa using (hth j hj).2) (by
    intro v hv
    obtain ⟨x, _, rfl⟩ := List.mem_map.1 hv
    rfl)
  have hz : ∀ w, (Go.sizeOf 5).run Tryd.prog w = .ok 1 w := fun w => by kernel_rfl
  simp only [Nat.add_zero] at hst
  have e : (sl t).map bv = t.data.toList.map (fun b : UInt8 => Value.int IntKind.u8 (b.toNat : Int)) := rfl
  simp [Builtin.copy_, run_underlying under28, Builtin.lenOf, Builtin.firstCells, hz, ← hm]
  rw [← e, ← List.map_take]
  rw [hst]
  rfl

theorem wpList_copy_eq {P : Program} (w : World) {ops : Array Oper} {rest : List Oper} {o : Oper} {a : Act} {Q : Exit → Act → World → Prop} (hgd : o.guard = none) (d s : Operand) (t t' : TypeId)
    (ho : o.op = .call { callee := .builtin .copy, args := #[d, s], argTypes := #[t, t'] }) (v u : Value) (hd : a.eval d = v) (hs : a.eval s = u) {v' : Value} {w' : World}
    (hr : (Builtin.copy_ #[t, t'] o.type #[v, u]).run P w = .ok v' w') (h : wpList P ops Q rest (a.put o.dst v') w') : wpList P ops Q (o :: rest) a w :=
  wpList_plain hgd fun _ hK => by
    unfold Oper.wp execOp
    simp only [ho, resolve, invoke, builtin, Sem.run_bind, Sem.run_pure, Result.andThen_ok, List.map_toArray, List.map_cons, List.map_nil, hd, hs, hr]
    exact hK _ _ h
theorem slice65 (b : Nat) (n : Nat) (hn : n ≤ 512) (W : World) :
    (Instr.sliceAt 78 (.pointer (some ⟨b, 0, none⟩)) none (some (.int .i64 (n : Int))) none).run Tryd.prog W = .ok (.slice (some ⟨b, 0, none⟩) n 512) W := by
  have z : (sizeOf (Tryd.prog.elem 78)).run Tryd.prog W = .ok 1 W := by kernel_rfl
  have l : Tryd.prog.arrayLen 78 = 512 := by kernel_rfl
  rw [run_sliceAt_array_h W 78 _ (by kernel_rfl) .i64 n (by omega) (by rw [l]; omega), z, l]
  rfl
/-- where a write stands: T written, t left -/
structure MW (w w' : World) (b : Nat) (all T : List UInt8) (t : ByteArray) : Prop where
  all_ : T ++ sl t = all
  h : HashOf w' b T
  p : ∃ P : List UInt8, P.length = 512 ∧ Has w' w.heap.size (P.map bv) 78
  g : w.grownBy w' (some b)
theorem MW.copied {w wr : World} {b : Nat} {all T : List UInt8} {t : ByteArray} (h : MW w wr b all T t) (hb : b < w.heap.size) (m : Nat) (hm : m = Nat.min t.size 512) :
    ∃ w2, (∀ ty, (Builtin.copy_ #[67, 9] ty #[.slice (some ⟨w.heap.size, 0, none⟩) 512 512, .string t]).run Tryd.prog wr = .ok (.int .i64 m) w2) ∧ MW w w2 b all T t ∧ Bytes b w2 (some ⟨w.heap.size, 0, none⟩) m 512 ((sl t).take m) := by
  obtain ⟨P, hP, hhas⟩ := h.p
  have hm1 : m ≤ t.size := by rw [hm]; exact Nat.min_le_left _ _
  have hm2 : m ≤ 512 := by rw [hm]; exact Nat.min_le_right _ _
  have hlt : ((sl t).take m).length = m := by rw [List.length_take, sl_len]; omega
  have hth : wr.there w.heap.size 0 m := hhas.there 0 m (by rw [List.length_map, hP]; omega)
  refine ⟨_, fun ty => copy_str wr ty w.heap.size 0 512 512 m t hm hth, ?_, ?_⟩
  · have hne : some b ≠ some w.heap.size := by simp; omega
    have h2 := hhas.setCells (((sl t).take m).map bv) 0
    rw [over_eq _ _ _ (by rw [List.length_map, List.length_map, hlt, hP]; omega), ← List.map_take, ← List.map_drop, ← List.map_append, ← List.map_append] at h2
    refine ⟨h.all_, h.h.kept (gr_sets _ _ _ _) hne, ⟨_, ?_, h2⟩, gr_new h.g (gr_sets _ _ _ _) (Nat.le_refl _)⟩
    simp [hP]; rw [sl_len]; omega
  · refine ⟨hlt, hm2, fun _ => ⟨_, 0, rfl, by omega, fun j x hx => ?_⟩⟩
    have h2 := hhas.setCells (((sl t).take m).map bv) 0
    rw [over_eq _ _ _ (by rw [List.length_map, List.length_map, hlt, hP]; omega)] at h2
    rw [Nat.zero_add, h2.cell]
    have hj : j < m := by rw [← hlt]; exact (List.getElem?_eq_some_iff.1 hx).1
    rw [List.take_zero, List.nil_append, List.getElem?_append_left (by rw [List.length_map, hlt]; exact hj), List.getElem?_map, hx]
    rfl
theorem MW.wrote {w w2 w3 : World} {b : Nat} {all T : List UInt8} {t : ByteArray} {m : Nat} (h : MW w w2 b all T t) (hb : b < w.heap.size) (h3 : HashOf w3 b (T ++ (sl t).take m)) (g3 : w2.grownBy w3 (some b)) : MW w w3 b all (T ++ (sl t).take m) (t.extract m t.size) := by
  obtain ⟨P, hP, hhas⟩ := h.p
  refine ⟨?_, h3, ⟨P, hP, hhas.kept g3 (by simp <;> omega)⟩, h.g.trans g3⟩
  rw [sl_extract, List.append_assoc, List.take_append_drop]; exact h.all_

set_option maxRecDepth 100000 in
set_option maxHeartbeats 4000000 in
theorem mwrite_gen (b : Nat) (T : List UInt8) (s : ByteArray) (w : World) (hh : HashOf w b T) (hk : Kc w) (hb0 : 0 ≠ b) (hs0 : s.size ≤ 9223372036854775807) :
    Calls Tryd.prog 29 #[.pointer (some ⟨b, 0, none⟩), .string s] w fun e w' => e = .returned (.tuple #[]) ∧ HashOf w' b (T ++ sl s) ∧ w.grownBy w' (some b) := by
  have hbw := hh.lt
  have H0 : Keep (MW w (w.alloc (.cells zero512 78)) b (T ++ sl s) T s) := ⟨rfl, hh.kept (World.grownBy_alloc _ _ none) (by simp), ⟨List.replicate 512 0, by simp, by have := Has.newA w zero512 78; rw [zero512_list] at this; exact this⟩, World.grownBy_alloc _ _ _⟩
  have HK : Keep (Kc w) := ⟨hk⟩
  have hz := zero65
  generalize T ++ sl s = all at *
  clear hh hk
  go_enter Tryd.func29, Tryd.ntmps29
  go_wp2
  go_loopw [1] (fun v w' => ∃ (t : ByteArray), t.size ≤ 9223372036854775807 ∧ v = .string t ∧ Keep (∃ T, MW w w' b all T t)) (fun v _ => strSize v)
  case atStart => exact ⟨s, hs0, rfl, ⟨_, H0.out⟩⟩
  case round =>
    obtain ⟨t, hts, rfl, hrel⟩ := hrel
    by_cases hn : 0 < t.size
    · obtain ⟨T, hW⟩ := hrel.out
      obtain ⟨m, hm⟩ : ∃ m, m = Nat.min t.size 512 := ⟨_, rfl⟩
      obtain ⟨w2, hcp, h2, hby⟩ := hW.copied hbw m hm
      have hm1 : m ≤ t.size := by rw [hm]; exact Nat.min_le_left _ _
      have hm2 : m ≤ 512 := by rw [hm]; exact Nat.min_le_right _ _
      have hm0 : 0 < m := by rw [hm]; simp only [Nat.min_def]; split <;> omega
      have hcp3 := hcp 3
      have hs65 := slice65 w.heap.size m hm2
      have H2 : Keep (MW w w2 b all T t ∧ Bytes b w2 (some ⟨w.heap.size, 0, none⟩) m 512 ((sl t).take m) ∧ Kc w2) := ⟨h2, hby, HK.out.kept h2.g (by simpa using hb0)⟩
      clear hrel hW hcp h2 hby hm
      go_wp2_with (
          (go_at_call 30; refine (write_gen b _ m 512 T ((sl t).take m) w2 H2.out.1.h H2.out.2.2 hb0 H2.out.2.1 (by omega)).mono ?_; rintro e w3 ⟨rfl, h3, g3⟩; have H3 : Keep (MW w w3 b all (T ++ (sl t).take m) (t.extract m t.size)) := ⟨H2.out.1.wrote hbw h3 g3⟩; clear h3 g3))
      refine ⟨⟨_, by rw [ByteArray.size_extract]; omega, rfl, ⟨_, H3.out⟩⟩, ?_⟩
      simp only [strSize, ByteArray.size_extract]; omega
    · have HE : Keep (HashOf wr b all ∧ w.grownBy wr (some b)) := ⟨by
        obtain ⟨T, hW⟩ := hrel.out
        have ht : sl t = [] := List.length_eq_zero_iff.1 (by rw [sl_len]; omega)
        have ha := hW.all_
        rw [ht, List.append_nil] at ha
        rw [← ha]
        exact ⟨hW.h, hW.g⟩⟩
      clear hrel
      go_wp2
      go_end0
      exact ⟨rfl, HE.out⟩
theorem mwrite_any (b : Nat) (T : List UInt8) (s : ByteArray) (w : World) (hh : HashOf w b T) (hk : Kc w) (hb0 : 0 ≠ b) (hT : T.length + s.size ≤ 4611686018427387904) :
    Calls Tryd.prog 29 #[.pointer (some ⟨b, 0, none⟩), .string s] w fun e w' => e = .returned (.tuple #[]) ∧ HashOf w' b (T ++ sl s) ∧ w.grownBy w' (some b) :=
  mwrite_gen b T s w hh hk hb0 (by omega)
end Go.Proofs.YtbmnlhmelbhjeaaDoor
